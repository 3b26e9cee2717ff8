/- The program's Do of layer 11 (job). Written by gen/gen_jobp.py. -/
import Derived.Test.YtimgdlddfnglaaaMg22
import Derived.Test.YtimgdlddfnglaaaMg06
import Derived.Test.YtimgdlddfnglaaaMg24
namespace Go.Proofs.Ytimgdlddfnglaaa
open Go.RowKit

/-- a job and an error's number; what it needs lies in memory of its own -/
def JPostO (j : Jb) (er : Int) (w : World) (e : Ending) (w' : World) : Prop :=
  (∃ A m c, e = .returned (.tuple #[.agg #[.int .i64 j.id, .int .i64 j.spec.nodes, .int .i64 j.spec.cores, .int .i64 j.spec.gpus, .string j.spec.tag, .bool j.spec.whole, .int .i64 j.spec.long, .int .i64 j.spec.prio, .slice A m c, .int .i64 j.state, .int .i64 j.came, .int .i64 j.frm, .int .i64 j.to], .int .i64 er]) ∧ JAsk w' A m c j ∧ ∀ p, A = some p → w.heap.size ≤ p.block) ∧ Below w.heap.size w w'
theorem JPostO.post {j : Jb} {er : Int} {w w' : World} {e : Ending} (h : JPostO j er w e w') : JPost j er w e w' := by
  obtain ⟨⟨A, m, c, h1, h2, _⟩, hb⟩ := h
  exact ⟨⟨A, m, c, h1, h2⟩, hb⟩
/-- numbers in a row of one's own, behind what was there -/
structure NO (B : Nat) (w : World) (A : Option Addr) (m c : Nat) (xs : List Int) : Prop where
  own : w.ownsRow B 3 1 (.slice A m c) m (xs.map (Value.int .i64))
section
variable {B : Nat} {w w' w0 : World} {A A0 : Option Addr} {m c m0 c0 : Nat} {xs : List Int} {j : Jb}
theorem NO.next (h : NO B w A m c xs) (hb : Below w.heap.size w w') : NO B w' A m c xs :=
  ⟨h.own.1, h.own.2.imp id (by
    rintro ⟨g, cap, cur, e1, e2, e3, e4⟩
    exact ⟨g, cap, cur, e1, e2, (hb.block g (Array.getElem?_eq_some_iff.1 e3).1).trans e3, e4⟩)⟩
theorem NO.set (h : NO B w A m c xs) {g k : Nat} {v : Value} (hg : g < B) : NO B (w.setCell ⟨g, k, none⟩ v) A m c xs := ⟨ownsRow_setCell_below h.own hg v⟩
theorem NO.job (h : NO B w A m c j.needs) (hj : JAsk w0 A0 m0 c0 j) (hm : m ≤ maxLen) {s f e : Int} (hs : I64 s) (hf : I64 f) (he : I64 e) : JAsk w A m c ⟨j.id, j.spec, j.needs, s, j.came, f, e⟩ :=
  ⟨RI.of_own (by have h1 := h.own; exact h1), own_nil h.own, own_cap h.own, hm, hj.spec, hj.int.1, hs, hj.int.2.2.1, hf, he, hj.int.2.2.2.2.2⟩
/-- what is its own lies behind what was there -/
theorem NO.fresh (h : NO B w A m c xs) {B' : Nat} (hB : B' ≤ B) : ∀ p, A = some p → B' ≤ p.block := by
  rintro p rfl
  rcases h.own.2 with ⟨e, _⟩ | ⟨g, cap, cur, e, e2, _⟩
  · cases e
  · injection e with e1 _ _
    injection e1 with e1
    subst e1
    exact Nat.le_trans hB e2
theorem NO.same (h : NO B w A m c j.needs) (hj : JAsk w0 A0 m0 c0 j) (hm : m ≤ maxLen) : JAsk w A m c j :=
  NO.job h hj hm hj.int.2.1 hj.int.2.2.2.1 hj.int.2.2.2.2.1
theorem clone_own {xs : List Int} (hr : RI w w.heap.size A m xs) (hnil : A = none → c = 0) (hm : m ≤ 1000) :
    Calls Try.prog 41 #[.slice A m c] w fun e w' => (∃ A1 c1, e = .returned (.slice A1 m c1) ∧ NO w.heap.size w' A1 m c1 xs) ∧ Below w.heap.size w w' :=
  (clone_any A m c xs w hr hnil hm).mono fun e w' ⟨v, h1, h2⟩ => by
    obtain ⟨A1, c1, rfl, _, _⟩ := h2.form
    have hl := hr.1
    have h3 := on_own h2
    rw [hl] at h3
    exact ⟨⟨A1, c1, by rw [h1, hl], ⟨h3.1⟩⟩, h3.2⟩
end
set_option maxRecDepth 100000 in
set_option maxHeartbeats 8000000 in
theorem do_1 (A : Option Addr) (m c : Nat) (j : Jb) (what now : Int) (w : World) (hj : JAsk w A m c j) (hm : m ≤ 1000) (hr : rightJ j = false) :
    Calls Try.prog 42 #[.agg #[.int .i64 j.id, .int .i64 j.spec.nodes, .int .i64 j.spec.cores, .int .i64 j.spec.gpus, .string j.spec.tag, .bool j.spec.whole, .int .i64 j.spec.long, .int .i64 j.spec.prio, .slice A m c, .int .i64 j.state, .int .i64 j.came, .int .i64 j.frm, .int .i64 j.to], .int .i64 what, .int .i64 now] w (JPostO j 1 w) := by
  obtain ⟨W2, hW2⟩ : ∃ W, W = (w.alloc (jO j A m c)).alloc (jO jb0 none 0 0) := ⟨_, rfl⟩
  have hs2 : W2.heap.size = w.heap.size + 1 + 1 := by rw [hW2]; simp
  have bx2 : BoxJ W2 w.heap.size j A m c := by rw [hW2]; exact (boxJ_new w j A m c).next ((Below.refl _ _).alloc (Nat.le_refl _) _)
  have br2 : BoxJ W2 (w.heap.size + 1) jb0 none 0 0 := by
    have := boxJ_new (w.alloc (jO j A m c)) jb0 none 0 0
    rw [show (w.alloc (jO j A m c)).heap.size = w.heap.size + 1 by simp] at this
    rw [hW2]; exact this
  have hb2 : Below w.heap.size w W2 := by rw [hW2]; exact ((Below.refl _ _).alloc (Nat.le_refl _) _).alloc (by simp) _
  obtain ⟨W, hW⟩ : ∃ W, W = W2.alloc (jO j A m c) := ⟨_, rfl⟩
  have hb3 : Below W2.heap.size W2 W := by rw [hW]; exact (Below.refl _ _).alloc (Nat.le_refl _) _
  have BX : Hid (BoxJ W w.heap.size j A m c) := Lib.hid (bx2.next hb3)
  have BR : Hid (BoxJ W (w.heap.size + 1) jb0 none 0 0) := Lib.hid (br2.next hb3)
  have BO : Hid (BoxJ W (w.heap.size + 1 + 1) j A m c) := Lib.hid (by
    have := boxJ_new W2 j A m c
    rw [hs2] at this
    rw [hW]; exact this)
  have HB : Hid (Below w.heap.size w W) := Lib.hid (hb2.trans (hb3.mono hb2.size))
  have HSZ : Hid (w.heap.size + 1 + 1 < W.heap.size) := Lib.hid BO.out.lt
  have JW := Lib.hid hj
  have JA := Lib.hid (hj.next HB.out)
  have HM : Hid (m ≤ 1000) := Lib.hid hm
  have HML : Hid (m ≤ maxLen) := Lib.hid hj.few
  have q0 := bx2.c0
  have q1 := bx2.c1
  have q2 := bx2.c2
  have q3 := bx2.c3
  have q4 := bx2.c4
  have q5 := bx2.c5
  have q6 := bx2.c6
  have q7 := bx2.c7
  have q8 := bx2.c8
  have q9 := bx2.c9
  have q10 := bx2.c10
  have q11 := bx2.c11
  have q12 := bx2.c12
  have s8 := BX.out.c8
  rw [hW2] at hW
  rw [hW] at s8
  rw [hW2] at q0 q1 q2 q3 q4 q5 q6 q7 q8 q9 q10 q11 q12
  unfold jO at hW s8 q0 q1 q2 q3 q4 q5 q6 q7 q8 q9 q10 q11 q12
  simp only [jb0, sp0] at hW s8 q0 q1 q2 q3 q4 q5 q6 q7 q8 q9 q10 q11 q12
  clear hb2 hb3 bx2 br2 hs2 hW2 W2 hj hm
  have RJ := Lib.hid hr
  clear hr
  go_enter Try.func42, Try.ntmps42
  go_wp2_with fail
  rw [← hW]
  clear hW
  refine (clone_own JA.out.reads JA.out.nil HM.out).mono ?_
  rintro e w1 ⟨⟨A1, c1, rfl, hno⟩, hb⟩
  have NN := Lib.hid hno
  clear hno
  have HBq := Lib.hid (HB.out.trans (hb.mono HB.out.size))
  clear HB
  have HB := HBq
  clear HBq
  have BXq := Lib.hid (BX.out.next hb)
  clear BX
  have BX := BXq
  clear BXq
  have BRq := Lib.hid (BR.out.next hb)
  clear BR
  have BR := BRq
  clear BRq
  have BOq := Lib.hid (BO.out.next hb)
  clear BO
  have BO := BOq
  clear BOq
  clear hb
  clear q0 q1 q2 q3 q4 q5 q6 q7 q8 q9 q10 q11 q12
  clear s8 JA
  have y8 := BO.out.frozen 8
  have o8 := BO.out.c8
  obtain ⟨V, hV⟩ : ∃ V, V = w1.setCell ⟨w.heap.size + 1 + 1, 8, none⟩ (.slice A1 m c1) := ⟨_, rfl⟩
  have BXq : Hid (BoxJ V w.heap.size j A m c) := Lib.hid (by rw [hV]; exact BX.out.other (by omega))
  have BRq : Hid (BoxJ V (w.heap.size + 1) jb0 none 0 0) := Lib.hid (by rw [hV]; exact BR.out.other (by omega))
  have BOq : Hid (BoxJ V (w.heap.size + 1 + 1) j A1 m c1) := Lib.hid (by rw [hV]; exact BO.out.set (by kernel_rfl))
  have NNq : Hid (NO W.heap.size V A1 m c1 j.needs) := Lib.hid (by rw [hV]; exact NN.out.set HSZ.out)
  have HBq : Hid (Below w.heap.size w V) := Lib.hid (by rw [hV]; exact HB.out.setCell (p := ⟨_, 8, none⟩) (show w.heap.size ≤ w.heap.size + 1 + 1 by omega) _)
  have q0 := BXq.out.c0
  have q1 := BXq.out.c1
  have q2 := BXq.out.c2
  have q3 := BXq.out.c3
  have q4 := BXq.out.c4
  have q5 := BXq.out.c5
  have q6 := BXq.out.c6
  have q7 := BXq.out.c7
  have q8 := BXq.out.c8
  have q9 := BXq.out.c9
  have q10 := BXq.out.c10
  have q11 := BXq.out.c11
  have q12 := BXq.out.c12
  rw [hV] at q0 q1 q2 q3 q4 q5 q6 q7 q8 q9 q10 q11 q12
  clear BX BR BO NN HB
  have BX := BXq
  have BR := BRq
  have BO := BOq
  have NN := NNq
  have HB := HBq
  clear BXq BRq BOq NNq HBq
  have JA := Lib.hid (JW.out.next HB.out)
  go_wp2_with fail
  rw [← hV]
  clear hV y8 o8
  refine (jobRight_b JA.out RJ.out).mono ?_
  rintro e w2 ⟨rfl, hb⟩
  have HBq := Lib.hid (HB.out.trans (hb.mono HB.out.size))
  clear HB
  have HB := HBq
  clear HBq
  have BXq := Lib.hid (BX.out.next hb)
  clear BX
  have BX := BXq
  clear BXq
  have BRq := Lib.hid (BR.out.next hb)
  clear BR
  have BR := BRq
  clear BRq
  have BOq := Lib.hid (BO.out.next hb)
  clear BO
  have BO := BOq
  clear BOq
  have NNq := Lib.hid (NN.out.next hb)
  clear NN
  have NN := NNq
  clear NNq
  clear hb
  clear q0 q1 q2 q3 q4 q5 q6 q7 q8 q9 q10 q11 q12
  have q0 := BX.out.c0
  have q1 := BX.out.c1
  have q2 := BX.out.c2
  have q3 := BX.out.c3
  have q4 := BX.out.c4
  have q5 := BX.out.c5
  have q6 := BX.out.c6
  have q7 := BX.out.c7
  have q8 := BX.out.c8
  have q9 := BX.out.c9
  have q10 := BX.out.c10
  have q11 := BX.out.c11
  have q12 := BX.out.c12
  clear JA
  have o0 := BO.out.c0
  have o1 := BO.out.c1
  have o2 := BO.out.c2
  have o3 := BO.out.c3
  have o4 := BO.out.c4
  have o5 := BO.out.c5
  have o6 := BO.out.c6
  have o7 := BO.out.c7
  have o8 := BO.out.c8
  have o9 := BO.out.c9
  have o10 := BO.out.c10
  have o11 := BO.out.c11
  have o12 := BO.out.c12
  have p0 := BR.out.c0
  have v0 := BR.out.frozen 0
  have p1 := BR.out.c1
  have v1 := BR.out.frozen 1
  have p2 := BR.out.c2
  have v2 := BR.out.frozen 2
  have p3 := BR.out.c3
  have v3 := BR.out.frozen 3
  have p4 := BR.out.c4
  have v4 := BR.out.frozen 4
  have p5 := BR.out.c5
  have v5 := BR.out.frozen 5
  have p6 := BR.out.c6
  have v6 := BR.out.frozen 6
  have p7 := BR.out.c7
  have v7 := BR.out.frozen 7
  have p8 := BR.out.c8
  have v8 := BR.out.frozen 8
  have p9 := BR.out.c9
  have v9 := BR.out.frozen 9
  have p10 := BR.out.c10
  have v10 := BR.out.frozen 10
  have p11 := BR.out.c11
  have v11 := BR.out.frozen 11
  have p12 := BR.out.c12
  have v12 := BR.out.frozen 12
  simp only [jb0, sp0] at p0 p1 p2 p3 p4 p5 p6 p7 p8 p9 p10 p11 p12
  go_wp2
  have HBF := below_store (v0 := .int .i64 j.id) (v1 := .int .i64 j.spec.nodes) (v2 := .int .i64 j.spec.cores) (v3 := .int .i64 j.spec.gpus) (v4 := .string j.spec.tag) (v5 := .bool j.spec.whole) (v6 := .int .i64 j.spec.long) (v7 := .int .i64 j.spec.prio) (v8 := .slice A1 m c1) (v9 := .int .i64 j.state) (v10 := .int .i64 j.came) (v11 := .int .i64 j.frm) (v12 := .int .i64 j.to) HB.out (show w.heap.size ≤ w.heap.size + 1 by omega)
  have b1 := BR.out.store j A1 m c1
  have r0 := b1.c0
  have r1 := b1.c1
  have r2 := b1.c2
  have r3 := b1.c3
  have r4 := b1.c4
  have r5 := b1.c5
  have r6 := b1.c6
  have r7 := b1.c7
  have r8 := b1.c8
  have r9 := b1.c9
  have r10 := b1.c10
  have r11 := b1.c11
  have r12 := b1.c12
  refine bodyPost_ret (v := .tuple #[.agg #[.int .i64 j.id, .int .i64 j.spec.nodes, .int .i64 j.spec.cores, .int .i64 j.spec.gpus, .string j.spec.tag, .bool j.spec.whole, .int .i64 j.spec.long, .int .i64 j.spec.prio, .slice A1 m c1, .int .i64 j.state, .int .i64 j.came, .int .i64 j.frm, .int .i64 j.to], .int .i64 1]) (by simp [results, Try.results42, go_sem, r0, r1, r2, r3, r4, r5, r6, r7, r8, r9, r10, r11, r12]) rfl ⟨⟨A1, m, c1, rfl, ((((((((((((((NN.out.set (show w.heap.size + 1 < W.heap.size from Nat.lt_of_succ_lt HSZ.out)).set (show w.heap.size + 1 < W.heap.size from Nat.lt_of_succ_lt HSZ.out)).set (show w.heap.size + 1 < W.heap.size from Nat.lt_of_succ_lt HSZ.out)).set (show w.heap.size + 1 < W.heap.size from Nat.lt_of_succ_lt HSZ.out)).set (show w.heap.size + 1 < W.heap.size from Nat.lt_of_succ_lt HSZ.out)).set (show w.heap.size + 1 < W.heap.size from Nat.lt_of_succ_lt HSZ.out)).set (show w.heap.size + 1 < W.heap.size from Nat.lt_of_succ_lt HSZ.out)).set (show w.heap.size + 1 < W.heap.size from Nat.lt_of_succ_lt HSZ.out)).set (show w.heap.size + 1 < W.heap.size from Nat.lt_of_succ_lt HSZ.out)).set (show w.heap.size + 1 < W.heap.size from Nat.lt_of_succ_lt HSZ.out)).set (show w.heap.size + 1 < W.heap.size from Nat.lt_of_succ_lt HSZ.out)).set (show w.heap.size + 1 < W.heap.size from Nat.lt_of_succ_lt HSZ.out)).set (show w.heap.size + 1 < W.heap.size from Nat.lt_of_succ_lt HSZ.out))).same JW.out HML.out, NN.out.fresh (Nat.le_of_lt (Nat.lt_of_succ_lt (Nat.lt_of_succ_lt HSZ.out)))⟩, HBF⟩

set_option maxRecDepth 100000 in
set_option maxHeartbeats 8000000 in
theorem do_2 (A : Option Addr) (m c : Nat) (j : Jb) (what now : Int) (w : World) (hj : JAsk w A m c j) (hm : m ≤ 1000) (hr : rightJ j = true) (h1 : what < 1) :
    Calls Try.prog 42 #[.agg #[.int .i64 j.id, .int .i64 j.spec.nodes, .int .i64 j.spec.cores, .int .i64 j.spec.gpus, .string j.spec.tag, .bool j.spec.whole, .int .i64 j.spec.long, .int .i64 j.spec.prio, .slice A m c, .int .i64 j.state, .int .i64 j.came, .int .i64 j.frm, .int .i64 j.to], .int .i64 what, .int .i64 now] w (JPostO j 1 w) := by
  obtain ⟨W2, hW2⟩ : ∃ W, W = (w.alloc (jO j A m c)).alloc (jO jb0 none 0 0) := ⟨_, rfl⟩
  have hs2 : W2.heap.size = w.heap.size + 1 + 1 := by rw [hW2]; simp
  have bx2 : BoxJ W2 w.heap.size j A m c := by rw [hW2]; exact (boxJ_new w j A m c).next ((Below.refl _ _).alloc (Nat.le_refl _) _)
  have br2 : BoxJ W2 (w.heap.size + 1) jb0 none 0 0 := by
    have := boxJ_new (w.alloc (jO j A m c)) jb0 none 0 0
    rw [show (w.alloc (jO j A m c)).heap.size = w.heap.size + 1 by simp] at this
    rw [hW2]; exact this
  have hb2 : Below w.heap.size w W2 := by rw [hW2]; exact ((Below.refl _ _).alloc (Nat.le_refl _) _).alloc (by simp) _
  obtain ⟨W, hW⟩ : ∃ W, W = W2.alloc (jO j A m c) := ⟨_, rfl⟩
  have hb3 : Below W2.heap.size W2 W := by rw [hW]; exact (Below.refl _ _).alloc (Nat.le_refl _) _
  have BX : Hid (BoxJ W w.heap.size j A m c) := Lib.hid (bx2.next hb3)
  have BR : Hid (BoxJ W (w.heap.size + 1) jb0 none 0 0) := Lib.hid (br2.next hb3)
  have BO : Hid (BoxJ W (w.heap.size + 1 + 1) j A m c) := Lib.hid (by
    have := boxJ_new W2 j A m c
    rw [hs2] at this
    rw [hW]; exact this)
  have HB : Hid (Below w.heap.size w W) := Lib.hid (hb2.trans (hb3.mono hb2.size))
  have HSZ : Hid (w.heap.size + 1 + 1 < W.heap.size) := Lib.hid BO.out.lt
  have JW := Lib.hid hj
  have JA := Lib.hid (hj.next HB.out)
  have HM : Hid (m ≤ 1000) := Lib.hid hm
  have HML : Hid (m ≤ maxLen) := Lib.hid hj.few
  have q0 := bx2.c0
  have q1 := bx2.c1
  have q2 := bx2.c2
  have q3 := bx2.c3
  have q4 := bx2.c4
  have q5 := bx2.c5
  have q6 := bx2.c6
  have q7 := bx2.c7
  have q8 := bx2.c8
  have q9 := bx2.c9
  have q10 := bx2.c10
  have q11 := bx2.c11
  have q12 := bx2.c12
  have s8 := BX.out.c8
  rw [hW2] at hW
  rw [hW] at s8
  rw [hW2] at q0 q1 q2 q3 q4 q5 q6 q7 q8 q9 q10 q11 q12
  unfold jO at hW s8 q0 q1 q2 q3 q4 q5 q6 q7 q8 q9 q10 q11 q12
  simp only [jb0, sp0] at hW s8 q0 q1 q2 q3 q4 q5 q6 q7 q8 q9 q10 q11 q12
  clear hb2 hb3 bx2 br2 hs2 hW2 W2 hj hm
  have RJ := Lib.hid hr
  have d1 : decide (what < 1) = true := decide_eq_true h1
  clear hr h1
  go_enter Try.func42, Try.ntmps42
  go_wp2_with fail
  rw [← hW]
  clear hW
  refine (clone_own JA.out.reads JA.out.nil HM.out).mono ?_
  rintro e w1 ⟨⟨A1, c1, rfl, hno⟩, hb⟩
  have NN := Lib.hid hno
  clear hno
  have HBq := Lib.hid (HB.out.trans (hb.mono HB.out.size))
  clear HB
  have HB := HBq
  clear HBq
  have BXq := Lib.hid (BX.out.next hb)
  clear BX
  have BX := BXq
  clear BXq
  have BRq := Lib.hid (BR.out.next hb)
  clear BR
  have BR := BRq
  clear BRq
  have BOq := Lib.hid (BO.out.next hb)
  clear BO
  have BO := BOq
  clear BOq
  clear hb
  clear q0 q1 q2 q3 q4 q5 q6 q7 q8 q9 q10 q11 q12
  clear s8 JA
  have y8 := BO.out.frozen 8
  have o8 := BO.out.c8
  obtain ⟨V, hV⟩ : ∃ V, V = w1.setCell ⟨w.heap.size + 1 + 1, 8, none⟩ (.slice A1 m c1) := ⟨_, rfl⟩
  have BXq : Hid (BoxJ V w.heap.size j A m c) := Lib.hid (by rw [hV]; exact BX.out.other (by omega))
  have BRq : Hid (BoxJ V (w.heap.size + 1) jb0 none 0 0) := Lib.hid (by rw [hV]; exact BR.out.other (by omega))
  have BOq : Hid (BoxJ V (w.heap.size + 1 + 1) j A1 m c1) := Lib.hid (by rw [hV]; exact BO.out.set (by kernel_rfl))
  have NNq : Hid (NO W.heap.size V A1 m c1 j.needs) := Lib.hid (by rw [hV]; exact NN.out.set HSZ.out)
  have HBq : Hid (Below w.heap.size w V) := Lib.hid (by rw [hV]; exact HB.out.setCell (p := ⟨_, 8, none⟩) (show w.heap.size ≤ w.heap.size + 1 + 1 by omega) _)
  have q0 := BXq.out.c0
  have q1 := BXq.out.c1
  have q2 := BXq.out.c2
  have q3 := BXq.out.c3
  have q4 := BXq.out.c4
  have q5 := BXq.out.c5
  have q6 := BXq.out.c6
  have q7 := BXq.out.c7
  have q8 := BXq.out.c8
  have q9 := BXq.out.c9
  have q10 := BXq.out.c10
  have q11 := BXq.out.c11
  have q12 := BXq.out.c12
  rw [hV] at q0 q1 q2 q3 q4 q5 q6 q7 q8 q9 q10 q11 q12
  clear BX BR BO NN HB
  have BX := BXq
  have BR := BRq
  have BO := BOq
  have NN := NNq
  have HB := HBq
  clear BXq BRq BOq NNq HBq
  have JA := Lib.hid (JW.out.next HB.out)
  go_wp2_with fail
  rw [← hV]
  clear hV y8 o8
  refine (jobRight_b JA.out RJ.out).mono ?_
  rintro e w2 ⟨rfl, hb⟩
  have HBq := Lib.hid (HB.out.trans (hb.mono HB.out.size))
  clear HB
  have HB := HBq
  clear HBq
  have BXq := Lib.hid (BX.out.next hb)
  clear BX
  have BX := BXq
  clear BXq
  have BRq := Lib.hid (BR.out.next hb)
  clear BR
  have BR := BRq
  clear BRq
  have BOq := Lib.hid (BO.out.next hb)
  clear BO
  have BO := BOq
  clear BOq
  have NNq := Lib.hid (NN.out.next hb)
  clear NN
  have NN := NNq
  clear NNq
  clear hb
  clear q0 q1 q2 q3 q4 q5 q6 q7 q8 q9 q10 q11 q12
  have q0 := BX.out.c0
  have q1 := BX.out.c1
  have q2 := BX.out.c2
  have q3 := BX.out.c3
  have q4 := BX.out.c4
  have q5 := BX.out.c5
  have q6 := BX.out.c6
  have q7 := BX.out.c7
  have q8 := BX.out.c8
  have q9 := BX.out.c9
  have q10 := BX.out.c10
  have q11 := BX.out.c11
  have q12 := BX.out.c12
  clear JA
  have o0 := BO.out.c0
  have o1 := BO.out.c1
  have o2 := BO.out.c2
  have o3 := BO.out.c3
  have o4 := BO.out.c4
  have o5 := BO.out.c5
  have o6 := BO.out.c6
  have o7 := BO.out.c7
  have o8 := BO.out.c8
  have o9 := BO.out.c9
  have o10 := BO.out.c10
  have o11 := BO.out.c11
  have o12 := BO.out.c12
  have p0 := BR.out.c0
  have v0 := BR.out.frozen 0
  have p1 := BR.out.c1
  have v1 := BR.out.frozen 1
  have p2 := BR.out.c2
  have v2 := BR.out.frozen 2
  have p3 := BR.out.c3
  have v3 := BR.out.frozen 3
  have p4 := BR.out.c4
  have v4 := BR.out.frozen 4
  have p5 := BR.out.c5
  have v5 := BR.out.frozen 5
  have p6 := BR.out.c6
  have v6 := BR.out.frozen 6
  have p7 := BR.out.c7
  have v7 := BR.out.frozen 7
  have p8 := BR.out.c8
  have v8 := BR.out.frozen 8
  have p9 := BR.out.c9
  have v9 := BR.out.frozen 9
  have p10 := BR.out.c10
  have v10 := BR.out.frozen 10
  have p11 := BR.out.c11
  have v11 := BR.out.frozen 11
  have p12 := BR.out.c12
  have v12 := BR.out.frozen 12
  simp only [jb0, sp0] at p0 p1 p2 p3 p4 p5 p6 p7 p8 p9 p10 p11 p12
  go_wp2
  have HBF := below_store (v0 := .int .i64 j.id) (v1 := .int .i64 j.spec.nodes) (v2 := .int .i64 j.spec.cores) (v3 := .int .i64 j.spec.gpus) (v4 := .string j.spec.tag) (v5 := .bool j.spec.whole) (v6 := .int .i64 j.spec.long) (v7 := .int .i64 j.spec.prio) (v8 := .slice A1 m c1) (v9 := .int .i64 j.state) (v10 := .int .i64 j.came) (v11 := .int .i64 j.frm) (v12 := .int .i64 j.to) HB.out (show w.heap.size ≤ w.heap.size + 1 by omega)
  have b1 := BR.out.store j A1 m c1
  have r0 := b1.c0
  have r1 := b1.c1
  have r2 := b1.c2
  have r3 := b1.c3
  have r4 := b1.c4
  have r5 := b1.c5
  have r6 := b1.c6
  have r7 := b1.c7
  have r8 := b1.c8
  have r9 := b1.c9
  have r10 := b1.c10
  have r11 := b1.c11
  have r12 := b1.c12
  refine bodyPost_ret (v := .tuple #[.agg #[.int .i64 j.id, .int .i64 j.spec.nodes, .int .i64 j.spec.cores, .int .i64 j.spec.gpus, .string j.spec.tag, .bool j.spec.whole, .int .i64 j.spec.long, .int .i64 j.spec.prio, .slice A1 m c1, .int .i64 j.state, .int .i64 j.came, .int .i64 j.frm, .int .i64 j.to], .int .i64 1]) (by simp [results, Try.results42, go_sem, r0, r1, r2, r3, r4, r5, r6, r7, r8, r9, r10, r11, r12]) rfl ⟨⟨A1, m, c1, rfl, ((((((((((((((NN.out.set (show w.heap.size + 1 < W.heap.size from Nat.lt_of_succ_lt HSZ.out)).set (show w.heap.size + 1 < W.heap.size from Nat.lt_of_succ_lt HSZ.out)).set (show w.heap.size + 1 < W.heap.size from Nat.lt_of_succ_lt HSZ.out)).set (show w.heap.size + 1 < W.heap.size from Nat.lt_of_succ_lt HSZ.out)).set (show w.heap.size + 1 < W.heap.size from Nat.lt_of_succ_lt HSZ.out)).set (show w.heap.size + 1 < W.heap.size from Nat.lt_of_succ_lt HSZ.out)).set (show w.heap.size + 1 < W.heap.size from Nat.lt_of_succ_lt HSZ.out)).set (show w.heap.size + 1 < W.heap.size from Nat.lt_of_succ_lt HSZ.out)).set (show w.heap.size + 1 < W.heap.size from Nat.lt_of_succ_lt HSZ.out)).set (show w.heap.size + 1 < W.heap.size from Nat.lt_of_succ_lt HSZ.out)).set (show w.heap.size + 1 < W.heap.size from Nat.lt_of_succ_lt HSZ.out)).set (show w.heap.size + 1 < W.heap.size from Nat.lt_of_succ_lt HSZ.out)).set (show w.heap.size + 1 < W.heap.size from Nat.lt_of_succ_lt HSZ.out))).same JW.out HML.out, NN.out.fresh (Nat.le_of_lt (Nat.lt_of_succ_lt (Nat.lt_of_succ_lt HSZ.out)))⟩, HBF⟩

set_option maxRecDepth 100000 in
set_option maxHeartbeats 8000000 in
theorem do_3 (A : Option Addr) (m c : Nat) (j : Jb) (what now : Int) (w : World) (hj : JAsk w A m c j) (hm : m ≤ 1000) (hr : rightJ j = true) (h1 : ¬ what < 1) (h2 : 7 < what) :
    Calls Try.prog 42 #[.agg #[.int .i64 j.id, .int .i64 j.spec.nodes, .int .i64 j.spec.cores, .int .i64 j.spec.gpus, .string j.spec.tag, .bool j.spec.whole, .int .i64 j.spec.long, .int .i64 j.spec.prio, .slice A m c, .int .i64 j.state, .int .i64 j.came, .int .i64 j.frm, .int .i64 j.to], .int .i64 what, .int .i64 now] w (JPostO j 1 w) := by
  obtain ⟨W2, hW2⟩ : ∃ W, W = (w.alloc (jO j A m c)).alloc (jO jb0 none 0 0) := ⟨_, rfl⟩
  have hs2 : W2.heap.size = w.heap.size + 1 + 1 := by rw [hW2]; simp
  have bx2 : BoxJ W2 w.heap.size j A m c := by rw [hW2]; exact (boxJ_new w j A m c).next ((Below.refl _ _).alloc (Nat.le_refl _) _)
  have br2 : BoxJ W2 (w.heap.size + 1) jb0 none 0 0 := by
    have := boxJ_new (w.alloc (jO j A m c)) jb0 none 0 0
    rw [show (w.alloc (jO j A m c)).heap.size = w.heap.size + 1 by simp] at this
    rw [hW2]; exact this
  have hb2 : Below w.heap.size w W2 := by rw [hW2]; exact ((Below.refl _ _).alloc (Nat.le_refl _) _).alloc (by simp) _
  obtain ⟨W, hW⟩ : ∃ W, W = W2.alloc (jO j A m c) := ⟨_, rfl⟩
  have hb3 : Below W2.heap.size W2 W := by rw [hW]; exact (Below.refl _ _).alloc (Nat.le_refl _) _
  have BX : Hid (BoxJ W w.heap.size j A m c) := Lib.hid (bx2.next hb3)
  have BR : Hid (BoxJ W (w.heap.size + 1) jb0 none 0 0) := Lib.hid (br2.next hb3)
  have BO : Hid (BoxJ W (w.heap.size + 1 + 1) j A m c) := Lib.hid (by
    have := boxJ_new W2 j A m c
    rw [hs2] at this
    rw [hW]; exact this)
  have HB : Hid (Below w.heap.size w W) := Lib.hid (hb2.trans (hb3.mono hb2.size))
  have HSZ : Hid (w.heap.size + 1 + 1 < W.heap.size) := Lib.hid BO.out.lt
  have JW := Lib.hid hj
  have JA := Lib.hid (hj.next HB.out)
  have HM : Hid (m ≤ 1000) := Lib.hid hm
  have HML : Hid (m ≤ maxLen) := Lib.hid hj.few
  have q0 := bx2.c0
  have q1 := bx2.c1
  have q2 := bx2.c2
  have q3 := bx2.c3
  have q4 := bx2.c4
  have q5 := bx2.c5
  have q6 := bx2.c6
  have q7 := bx2.c7
  have q8 := bx2.c8
  have q9 := bx2.c9
  have q10 := bx2.c10
  have q11 := bx2.c11
  have q12 := bx2.c12
  have s8 := BX.out.c8
  rw [hW2] at hW
  rw [hW] at s8
  rw [hW2] at q0 q1 q2 q3 q4 q5 q6 q7 q8 q9 q10 q11 q12
  unfold jO at hW s8 q0 q1 q2 q3 q4 q5 q6 q7 q8 q9 q10 q11 q12
  simp only [jb0, sp0] at hW s8 q0 q1 q2 q3 q4 q5 q6 q7 q8 q9 q10 q11 q12
  clear hb2 hb3 bx2 br2 hs2 hW2 W2 hj hm
  have RJ := Lib.hid hr
  have d1 : decide (what < 1) = false := decide_eq_false h1
  have d2 : decide (7 < what) = true := decide_eq_true h2
  clear hr h1 h2
  go_enter Try.func42, Try.ntmps42
  go_wp2_with fail
  rw [← hW]
  clear hW
  refine (clone_own JA.out.reads JA.out.nil HM.out).mono ?_
  rintro e w1 ⟨⟨A1, c1, rfl, hno⟩, hb⟩
  have NN := Lib.hid hno
  clear hno
  have HBq := Lib.hid (HB.out.trans (hb.mono HB.out.size))
  clear HB
  have HB := HBq
  clear HBq
  have BXq := Lib.hid (BX.out.next hb)
  clear BX
  have BX := BXq
  clear BXq
  have BRq := Lib.hid (BR.out.next hb)
  clear BR
  have BR := BRq
  clear BRq
  have BOq := Lib.hid (BO.out.next hb)
  clear BO
  have BO := BOq
  clear BOq
  clear hb
  clear q0 q1 q2 q3 q4 q5 q6 q7 q8 q9 q10 q11 q12
  clear s8 JA
  have y8 := BO.out.frozen 8
  have o8 := BO.out.c8
  obtain ⟨V, hV⟩ : ∃ V, V = w1.setCell ⟨w.heap.size + 1 + 1, 8, none⟩ (.slice A1 m c1) := ⟨_, rfl⟩
  have BXq : Hid (BoxJ V w.heap.size j A m c) := Lib.hid (by rw [hV]; exact BX.out.other (by omega))
  have BRq : Hid (BoxJ V (w.heap.size + 1) jb0 none 0 0) := Lib.hid (by rw [hV]; exact BR.out.other (by omega))
  have BOq : Hid (BoxJ V (w.heap.size + 1 + 1) j A1 m c1) := Lib.hid (by rw [hV]; exact BO.out.set (by kernel_rfl))
  have NNq : Hid (NO W.heap.size V A1 m c1 j.needs) := Lib.hid (by rw [hV]; exact NN.out.set HSZ.out)
  have HBq : Hid (Below w.heap.size w V) := Lib.hid (by rw [hV]; exact HB.out.setCell (p := ⟨_, 8, none⟩) (show w.heap.size ≤ w.heap.size + 1 + 1 by omega) _)
  have q0 := BXq.out.c0
  have q1 := BXq.out.c1
  have q2 := BXq.out.c2
  have q3 := BXq.out.c3
  have q4 := BXq.out.c4
  have q5 := BXq.out.c5
  have q6 := BXq.out.c6
  have q7 := BXq.out.c7
  have q8 := BXq.out.c8
  have q9 := BXq.out.c9
  have q10 := BXq.out.c10
  have q11 := BXq.out.c11
  have q12 := BXq.out.c12
  rw [hV] at q0 q1 q2 q3 q4 q5 q6 q7 q8 q9 q10 q11 q12
  clear BX BR BO NN HB
  have BX := BXq
  have BR := BRq
  have BO := BOq
  have NN := NNq
  have HB := HBq
  clear BXq BRq BOq NNq HBq
  have JA := Lib.hid (JW.out.next HB.out)
  go_wp2_with fail
  rw [← hV]
  clear hV y8 o8
  refine (jobRight_b JA.out RJ.out).mono ?_
  rintro e w2 ⟨rfl, hb⟩
  have HBq := Lib.hid (HB.out.trans (hb.mono HB.out.size))
  clear HB
  have HB := HBq
  clear HBq
  have BXq := Lib.hid (BX.out.next hb)
  clear BX
  have BX := BXq
  clear BXq
  have BRq := Lib.hid (BR.out.next hb)
  clear BR
  have BR := BRq
  clear BRq
  have BOq := Lib.hid (BO.out.next hb)
  clear BO
  have BO := BOq
  clear BOq
  have NNq := Lib.hid (NN.out.next hb)
  clear NN
  have NN := NNq
  clear NNq
  clear hb
  clear q0 q1 q2 q3 q4 q5 q6 q7 q8 q9 q10 q11 q12
  have q0 := BX.out.c0
  have q1 := BX.out.c1
  have q2 := BX.out.c2
  have q3 := BX.out.c3
  have q4 := BX.out.c4
  have q5 := BX.out.c5
  have q6 := BX.out.c6
  have q7 := BX.out.c7
  have q8 := BX.out.c8
  have q9 := BX.out.c9
  have q10 := BX.out.c10
  have q11 := BX.out.c11
  have q12 := BX.out.c12
  clear JA
  have o0 := BO.out.c0
  have o1 := BO.out.c1
  have o2 := BO.out.c2
  have o3 := BO.out.c3
  have o4 := BO.out.c4
  have o5 := BO.out.c5
  have o6 := BO.out.c6
  have o7 := BO.out.c7
  have o8 := BO.out.c8
  have o9 := BO.out.c9
  have o10 := BO.out.c10
  have o11 := BO.out.c11
  have o12 := BO.out.c12
  have p0 := BR.out.c0
  have v0 := BR.out.frozen 0
  have p1 := BR.out.c1
  have v1 := BR.out.frozen 1
  have p2 := BR.out.c2
  have v2 := BR.out.frozen 2
  have p3 := BR.out.c3
  have v3 := BR.out.frozen 3
  have p4 := BR.out.c4
  have v4 := BR.out.frozen 4
  have p5 := BR.out.c5
  have v5 := BR.out.frozen 5
  have p6 := BR.out.c6
  have v6 := BR.out.frozen 6
  have p7 := BR.out.c7
  have v7 := BR.out.frozen 7
  have p8 := BR.out.c8
  have v8 := BR.out.frozen 8
  have p9 := BR.out.c9
  have v9 := BR.out.frozen 9
  have p10 := BR.out.c10
  have v10 := BR.out.frozen 10
  have p11 := BR.out.c11
  have v11 := BR.out.frozen 11
  have p12 := BR.out.c12
  have v12 := BR.out.frozen 12
  simp only [jb0, sp0] at p0 p1 p2 p3 p4 p5 p6 p7 p8 p9 p10 p11 p12
  go_wp2
  have HBF := below_store (v0 := .int .i64 j.id) (v1 := .int .i64 j.spec.nodes) (v2 := .int .i64 j.spec.cores) (v3 := .int .i64 j.spec.gpus) (v4 := .string j.spec.tag) (v5 := .bool j.spec.whole) (v6 := .int .i64 j.spec.long) (v7 := .int .i64 j.spec.prio) (v8 := .slice A1 m c1) (v9 := .int .i64 j.state) (v10 := .int .i64 j.came) (v11 := .int .i64 j.frm) (v12 := .int .i64 j.to) HB.out (show w.heap.size ≤ w.heap.size + 1 by omega)
  have b1 := BR.out.store j A1 m c1
  have r0 := b1.c0
  have r1 := b1.c1
  have r2 := b1.c2
  have r3 := b1.c3
  have r4 := b1.c4
  have r5 := b1.c5
  have r6 := b1.c6
  have r7 := b1.c7
  have r8 := b1.c8
  have r9 := b1.c9
  have r10 := b1.c10
  have r11 := b1.c11
  have r12 := b1.c12
  refine bodyPost_ret (v := .tuple #[.agg #[.int .i64 j.id, .int .i64 j.spec.nodes, .int .i64 j.spec.cores, .int .i64 j.spec.gpus, .string j.spec.tag, .bool j.spec.whole, .int .i64 j.spec.long, .int .i64 j.spec.prio, .slice A1 m c1, .int .i64 j.state, .int .i64 j.came, .int .i64 j.frm, .int .i64 j.to], .int .i64 1]) (by simp [results, Try.results42, go_sem, r0, r1, r2, r3, r4, r5, r6, r7, r8, r9, r10, r11, r12]) rfl ⟨⟨A1, m, c1, rfl, ((((((((((((((NN.out.set (show w.heap.size + 1 < W.heap.size from Nat.lt_of_succ_lt HSZ.out)).set (show w.heap.size + 1 < W.heap.size from Nat.lt_of_succ_lt HSZ.out)).set (show w.heap.size + 1 < W.heap.size from Nat.lt_of_succ_lt HSZ.out)).set (show w.heap.size + 1 < W.heap.size from Nat.lt_of_succ_lt HSZ.out)).set (show w.heap.size + 1 < W.heap.size from Nat.lt_of_succ_lt HSZ.out)).set (show w.heap.size + 1 < W.heap.size from Nat.lt_of_succ_lt HSZ.out)).set (show w.heap.size + 1 < W.heap.size from Nat.lt_of_succ_lt HSZ.out)).set (show w.heap.size + 1 < W.heap.size from Nat.lt_of_succ_lt HSZ.out)).set (show w.heap.size + 1 < W.heap.size from Nat.lt_of_succ_lt HSZ.out)).set (show w.heap.size + 1 < W.heap.size from Nat.lt_of_succ_lt HSZ.out)).set (show w.heap.size + 1 < W.heap.size from Nat.lt_of_succ_lt HSZ.out)).set (show w.heap.size + 1 < W.heap.size from Nat.lt_of_succ_lt HSZ.out)).set (show w.heap.size + 1 < W.heap.size from Nat.lt_of_succ_lt HSZ.out))).same JW.out HML.out, NN.out.fresh (Nat.le_of_lt (Nat.lt_of_succ_lt (Nat.lt_of_succ_lt HSZ.out)))⟩, HBF⟩

set_option maxRecDepth 100000 in
set_option maxHeartbeats 8000000 in
theorem do_4 (A : Option Addr) (m c : Nat) (j : Jb) (what now : Int) (w : World) (hj : JAsk w A m c j) (hm : m ≤ 1000) (hr : rightJ j = true) (h1 : ¬ what < 1) (h2 : ¬ 7 < what) (h3 : timeB now = false) :
    Calls Try.prog 42 #[.agg #[.int .i64 j.id, .int .i64 j.spec.nodes, .int .i64 j.spec.cores, .int .i64 j.spec.gpus, .string j.spec.tag, .bool j.spec.whole, .int .i64 j.spec.long, .int .i64 j.spec.prio, .slice A m c, .int .i64 j.state, .int .i64 j.came, .int .i64 j.frm, .int .i64 j.to], .int .i64 what, .int .i64 now] w (JPostO j 1 w) := by
  obtain ⟨W2, hW2⟩ : ∃ W, W = (w.alloc (jO j A m c)).alloc (jO jb0 none 0 0) := ⟨_, rfl⟩
  have hs2 : W2.heap.size = w.heap.size + 1 + 1 := by rw [hW2]; simp
  have bx2 : BoxJ W2 w.heap.size j A m c := by rw [hW2]; exact (boxJ_new w j A m c).next ((Below.refl _ _).alloc (Nat.le_refl _) _)
  have br2 : BoxJ W2 (w.heap.size + 1) jb0 none 0 0 := by
    have := boxJ_new (w.alloc (jO j A m c)) jb0 none 0 0
    rw [show (w.alloc (jO j A m c)).heap.size = w.heap.size + 1 by simp] at this
    rw [hW2]; exact this
  have hb2 : Below w.heap.size w W2 := by rw [hW2]; exact ((Below.refl _ _).alloc (Nat.le_refl _) _).alloc (by simp) _
  obtain ⟨W, hW⟩ : ∃ W, W = W2.alloc (jO j A m c) := ⟨_, rfl⟩
  have hb3 : Below W2.heap.size W2 W := by rw [hW]; exact (Below.refl _ _).alloc (Nat.le_refl _) _
  have BX : Hid (BoxJ W w.heap.size j A m c) := Lib.hid (bx2.next hb3)
  have BR : Hid (BoxJ W (w.heap.size + 1) jb0 none 0 0) := Lib.hid (br2.next hb3)
  have BO : Hid (BoxJ W (w.heap.size + 1 + 1) j A m c) := Lib.hid (by
    have := boxJ_new W2 j A m c
    rw [hs2] at this
    rw [hW]; exact this)
  have HB : Hid (Below w.heap.size w W) := Lib.hid (hb2.trans (hb3.mono hb2.size))
  have HSZ : Hid (w.heap.size + 1 + 1 < W.heap.size) := Lib.hid BO.out.lt
  have JW := Lib.hid hj
  have JA := Lib.hid (hj.next HB.out)
  have HM : Hid (m ≤ 1000) := Lib.hid hm
  have HML : Hid (m ≤ maxLen) := Lib.hid hj.few
  have q0 := bx2.c0
  have q1 := bx2.c1
  have q2 := bx2.c2
  have q3 := bx2.c3
  have q4 := bx2.c4
  have q5 := bx2.c5
  have q6 := bx2.c6
  have q7 := bx2.c7
  have q8 := bx2.c8
  have q9 := bx2.c9
  have q10 := bx2.c10
  have q11 := bx2.c11
  have q12 := bx2.c12
  have s8 := BX.out.c8
  rw [hW2] at hW
  rw [hW] at s8
  rw [hW2] at q0 q1 q2 q3 q4 q5 q6 q7 q8 q9 q10 q11 q12
  unfold jO at hW s8 q0 q1 q2 q3 q4 q5 q6 q7 q8 q9 q10 q11 q12
  simp only [jb0, sp0] at hW s8 q0 q1 q2 q3 q4 q5 q6 q7 q8 q9 q10 q11 q12
  clear hb2 hb3 bx2 br2 hs2 hW2 W2 hj hm
  have RJ := Lib.hid hr
  have d1 : decide (what < 1) = false := decide_eq_false h1
  have d2 : decide (7 < what) = false := decide_eq_false h2
  have TN := Lib.hid h3
  clear hr h1 h2 h3
  go_enter Try.func42, Try.ntmps42
  go_wp2_with fail
  rw [← hW]
  clear hW
  refine (clone_own JA.out.reads JA.out.nil HM.out).mono ?_
  rintro e w1 ⟨⟨A1, c1, rfl, hno⟩, hb⟩
  have NN := Lib.hid hno
  clear hno
  have HBq := Lib.hid (HB.out.trans (hb.mono HB.out.size))
  clear HB
  have HB := HBq
  clear HBq
  have BXq := Lib.hid (BX.out.next hb)
  clear BX
  have BX := BXq
  clear BXq
  have BRq := Lib.hid (BR.out.next hb)
  clear BR
  have BR := BRq
  clear BRq
  have BOq := Lib.hid (BO.out.next hb)
  clear BO
  have BO := BOq
  clear BOq
  clear hb
  clear q0 q1 q2 q3 q4 q5 q6 q7 q8 q9 q10 q11 q12
  clear s8 JA
  have y8 := BO.out.frozen 8
  have o8 := BO.out.c8
  obtain ⟨V, hV⟩ : ∃ V, V = w1.setCell ⟨w.heap.size + 1 + 1, 8, none⟩ (.slice A1 m c1) := ⟨_, rfl⟩
  have BXq : Hid (BoxJ V w.heap.size j A m c) := Lib.hid (by rw [hV]; exact BX.out.other (by omega))
  have BRq : Hid (BoxJ V (w.heap.size + 1) jb0 none 0 0) := Lib.hid (by rw [hV]; exact BR.out.other (by omega))
  have BOq : Hid (BoxJ V (w.heap.size + 1 + 1) j A1 m c1) := Lib.hid (by rw [hV]; exact BO.out.set (by kernel_rfl))
  have NNq : Hid (NO W.heap.size V A1 m c1 j.needs) := Lib.hid (by rw [hV]; exact NN.out.set HSZ.out)
  have HBq : Hid (Below w.heap.size w V) := Lib.hid (by rw [hV]; exact HB.out.setCell (p := ⟨_, 8, none⟩) (show w.heap.size ≤ w.heap.size + 1 + 1 by omega) _)
  have q0 := BXq.out.c0
  have q1 := BXq.out.c1
  have q2 := BXq.out.c2
  have q3 := BXq.out.c3
  have q4 := BXq.out.c4
  have q5 := BXq.out.c5
  have q6 := BXq.out.c6
  have q7 := BXq.out.c7
  have q8 := BXq.out.c8
  have q9 := BXq.out.c9
  have q10 := BXq.out.c10
  have q11 := BXq.out.c11
  have q12 := BXq.out.c12
  rw [hV] at q0 q1 q2 q3 q4 q5 q6 q7 q8 q9 q10 q11 q12
  clear BX BR BO NN HB
  have BX := BXq
  have BR := BRq
  have BO := BOq
  have NN := NNq
  have HB := HBq
  clear BXq BRq BOq NNq HBq
  have JA := Lib.hid (JW.out.next HB.out)
  go_wp2_with fail
  rw [← hV]
  clear hV y8 o8
  refine (jobRight_b JA.out RJ.out).mono ?_
  rintro e w2 ⟨rfl, hb⟩
  have HBq := Lib.hid (HB.out.trans (hb.mono HB.out.size))
  clear HB
  have HB := HBq
  clear HBq
  have BXq := Lib.hid (BX.out.next hb)
  clear BX
  have BX := BXq
  clear BXq
  have BRq := Lib.hid (BR.out.next hb)
  clear BR
  have BR := BRq
  clear BRq
  have BOq := Lib.hid (BO.out.next hb)
  clear BO
  have BO := BOq
  clear BOq
  have NNq := Lib.hid (NN.out.next hb)
  clear NN
  have NN := NNq
  clear NNq
  clear hb
  clear q0 q1 q2 q3 q4 q5 q6 q7 q8 q9 q10 q11 q12
  have q0 := BX.out.c0
  have q1 := BX.out.c1
  have q2 := BX.out.c2
  have q3 := BX.out.c3
  have q4 := BX.out.c4
  have q5 := BX.out.c5
  have q6 := BX.out.c6
  have q7 := BX.out.c7
  have q8 := BX.out.c8
  have q9 := BX.out.c9
  have q10 := BX.out.c10
  have q11 := BX.out.c11
  have q12 := BX.out.c12
  clear JA
  go_wp2_with fail
  refine (whenRight_b now _ _ TN.out).mono ?_
  rintro e wz ⟨rfl, rfl⟩
  have o0 := BO.out.c0
  have o1 := BO.out.c1
  have o2 := BO.out.c2
  have o3 := BO.out.c3
  have o4 := BO.out.c4
  have o5 := BO.out.c5
  have o6 := BO.out.c6
  have o7 := BO.out.c7
  have o8 := BO.out.c8
  have o9 := BO.out.c9
  have o10 := BO.out.c10
  have o11 := BO.out.c11
  have o12 := BO.out.c12
  have p0 := BR.out.c0
  have v0 := BR.out.frozen 0
  have p1 := BR.out.c1
  have v1 := BR.out.frozen 1
  have p2 := BR.out.c2
  have v2 := BR.out.frozen 2
  have p3 := BR.out.c3
  have v3 := BR.out.frozen 3
  have p4 := BR.out.c4
  have v4 := BR.out.frozen 4
  have p5 := BR.out.c5
  have v5 := BR.out.frozen 5
  have p6 := BR.out.c6
  have v6 := BR.out.frozen 6
  have p7 := BR.out.c7
  have v7 := BR.out.frozen 7
  have p8 := BR.out.c8
  have v8 := BR.out.frozen 8
  have p9 := BR.out.c9
  have v9 := BR.out.frozen 9
  have p10 := BR.out.c10
  have v10 := BR.out.frozen 10
  have p11 := BR.out.c11
  have v11 := BR.out.frozen 11
  have p12 := BR.out.c12
  have v12 := BR.out.frozen 12
  simp only [jb0, sp0] at p0 p1 p2 p3 p4 p5 p6 p7 p8 p9 p10 p11 p12
  go_wp2
  have HBF := below_store (v0 := .int .i64 j.id) (v1 := .int .i64 j.spec.nodes) (v2 := .int .i64 j.spec.cores) (v3 := .int .i64 j.spec.gpus) (v4 := .string j.spec.tag) (v5 := .bool j.spec.whole) (v6 := .int .i64 j.spec.long) (v7 := .int .i64 j.spec.prio) (v8 := .slice A1 m c1) (v9 := .int .i64 j.state) (v10 := .int .i64 j.came) (v11 := .int .i64 j.frm) (v12 := .int .i64 j.to) HB.out (show w.heap.size ≤ w.heap.size + 1 by omega)
  have b1 := BR.out.store j A1 m c1
  have r0 := b1.c0
  have r1 := b1.c1
  have r2 := b1.c2
  have r3 := b1.c3
  have r4 := b1.c4
  have r5 := b1.c5
  have r6 := b1.c6
  have r7 := b1.c7
  have r8 := b1.c8
  have r9 := b1.c9
  have r10 := b1.c10
  have r11 := b1.c11
  have r12 := b1.c12
  refine bodyPost_ret (v := .tuple #[.agg #[.int .i64 j.id, .int .i64 j.spec.nodes, .int .i64 j.spec.cores, .int .i64 j.spec.gpus, .string j.spec.tag, .bool j.spec.whole, .int .i64 j.spec.long, .int .i64 j.spec.prio, .slice A1 m c1, .int .i64 j.state, .int .i64 j.came, .int .i64 j.frm, .int .i64 j.to], .int .i64 1]) (by simp [results, Try.results42, go_sem, r0, r1, r2, r3, r4, r5, r6, r7, r8, r9, r10, r11, r12]) rfl ⟨⟨A1, m, c1, rfl, ((((((((((((((NN.out.set (show w.heap.size + 1 < W.heap.size from Nat.lt_of_succ_lt HSZ.out)).set (show w.heap.size + 1 < W.heap.size from Nat.lt_of_succ_lt HSZ.out)).set (show w.heap.size + 1 < W.heap.size from Nat.lt_of_succ_lt HSZ.out)).set (show w.heap.size + 1 < W.heap.size from Nat.lt_of_succ_lt HSZ.out)).set (show w.heap.size + 1 < W.heap.size from Nat.lt_of_succ_lt HSZ.out)).set (show w.heap.size + 1 < W.heap.size from Nat.lt_of_succ_lt HSZ.out)).set (show w.heap.size + 1 < W.heap.size from Nat.lt_of_succ_lt HSZ.out)).set (show w.heap.size + 1 < W.heap.size from Nat.lt_of_succ_lt HSZ.out)).set (show w.heap.size + 1 < W.heap.size from Nat.lt_of_succ_lt HSZ.out)).set (show w.heap.size + 1 < W.heap.size from Nat.lt_of_succ_lt HSZ.out)).set (show w.heap.size + 1 < W.heap.size from Nat.lt_of_succ_lt HSZ.out)).set (show w.heap.size + 1 < W.heap.size from Nat.lt_of_succ_lt HSZ.out)).set (show w.heap.size + 1 < W.heap.size from Nat.lt_of_succ_lt HSZ.out))).same JW.out HML.out, NN.out.fresh (Nat.le_of_lt (Nat.lt_of_succ_lt (Nat.lt_of_succ_lt HSZ.out)))⟩, HBF⟩

set_option maxRecDepth 100000 in
set_option maxHeartbeats 8000000 in
theorem do_5 (A : Option Addr) (m c : Nat) (j : Jb) (what now : Int) (w : World) (hj : JAsk w A m c j) (hm : m ≤ 1000) (hr : rightJ j = true) (h1 : ¬ what < 1) (h2 : ¬ 7 < what) (h3 : timeB now = true) (h4 : now < j.came) :
    Calls Try.prog 42 #[.agg #[.int .i64 j.id, .int .i64 j.spec.nodes, .int .i64 j.spec.cores, .int .i64 j.spec.gpus, .string j.spec.tag, .bool j.spec.whole, .int .i64 j.spec.long, .int .i64 j.spec.prio, .slice A m c, .int .i64 j.state, .int .i64 j.came, .int .i64 j.frm, .int .i64 j.to], .int .i64 what, .int .i64 now] w (JPostO j 1 w) := by
  obtain ⟨W2, hW2⟩ : ∃ W, W = (w.alloc (jO j A m c)).alloc (jO jb0 none 0 0) := ⟨_, rfl⟩
  have hs2 : W2.heap.size = w.heap.size + 1 + 1 := by rw [hW2]; simp
  have bx2 : BoxJ W2 w.heap.size j A m c := by rw [hW2]; exact (boxJ_new w j A m c).next ((Below.refl _ _).alloc (Nat.le_refl _) _)
  have br2 : BoxJ W2 (w.heap.size + 1) jb0 none 0 0 := by
    have := boxJ_new (w.alloc (jO j A m c)) jb0 none 0 0
    rw [show (w.alloc (jO j A m c)).heap.size = w.heap.size + 1 by simp] at this
    rw [hW2]; exact this
  have hb2 : Below w.heap.size w W2 := by rw [hW2]; exact ((Below.refl _ _).alloc (Nat.le_refl _) _).alloc (by simp) _
  obtain ⟨W, hW⟩ : ∃ W, W = W2.alloc (jO j A m c) := ⟨_, rfl⟩
  have hb3 : Below W2.heap.size W2 W := by rw [hW]; exact (Below.refl _ _).alloc (Nat.le_refl _) _
  have BX : Hid (BoxJ W w.heap.size j A m c) := Lib.hid (bx2.next hb3)
  have BR : Hid (BoxJ W (w.heap.size + 1) jb0 none 0 0) := Lib.hid (br2.next hb3)
  have BO : Hid (BoxJ W (w.heap.size + 1 + 1) j A m c) := Lib.hid (by
    have := boxJ_new W2 j A m c
    rw [hs2] at this
    rw [hW]; exact this)
  have HB : Hid (Below w.heap.size w W) := Lib.hid (hb2.trans (hb3.mono hb2.size))
  have HSZ : Hid (w.heap.size + 1 + 1 < W.heap.size) := Lib.hid BO.out.lt
  have JW := Lib.hid hj
  have JA := Lib.hid (hj.next HB.out)
  have HM : Hid (m ≤ 1000) := Lib.hid hm
  have HML : Hid (m ≤ maxLen) := Lib.hid hj.few
  have q0 := bx2.c0
  have q1 := bx2.c1
  have q2 := bx2.c2
  have q3 := bx2.c3
  have q4 := bx2.c4
  have q5 := bx2.c5
  have q6 := bx2.c6
  have q7 := bx2.c7
  have q8 := bx2.c8
  have q9 := bx2.c9
  have q10 := bx2.c10
  have q11 := bx2.c11
  have q12 := bx2.c12
  have s8 := BX.out.c8
  rw [hW2] at hW
  rw [hW] at s8
  rw [hW2] at q0 q1 q2 q3 q4 q5 q6 q7 q8 q9 q10 q11 q12
  unfold jO at hW s8 q0 q1 q2 q3 q4 q5 q6 q7 q8 q9 q10 q11 q12
  simp only [jb0, sp0] at hW s8 q0 q1 q2 q3 q4 q5 q6 q7 q8 q9 q10 q11 q12
  clear hb2 hb3 bx2 br2 hs2 hW2 W2 hj hm
  have RJ := Lib.hid hr
  have d1 : decide (what < 1) = false := decide_eq_false h1
  have d2 : decide (7 < what) = false := decide_eq_false h2
  have TN := Lib.hid h3
  have d4 : decide (now < j.came) = true := decide_eq_true h4
  clear hr h1 h2 h3 h4
  go_enter Try.func42, Try.ntmps42
  go_wp2_with fail
  rw [← hW]
  clear hW
  refine (clone_own JA.out.reads JA.out.nil HM.out).mono ?_
  rintro e w1 ⟨⟨A1, c1, rfl, hno⟩, hb⟩
  have NN := Lib.hid hno
  clear hno
  have HBq := Lib.hid (HB.out.trans (hb.mono HB.out.size))
  clear HB
  have HB := HBq
  clear HBq
  have BXq := Lib.hid (BX.out.next hb)
  clear BX
  have BX := BXq
  clear BXq
  have BRq := Lib.hid (BR.out.next hb)
  clear BR
  have BR := BRq
  clear BRq
  have BOq := Lib.hid (BO.out.next hb)
  clear BO
  have BO := BOq
  clear BOq
  clear hb
  clear q0 q1 q2 q3 q4 q5 q6 q7 q8 q9 q10 q11 q12
  clear s8 JA
  have y8 := BO.out.frozen 8
  have o8 := BO.out.c8
  obtain ⟨V, hV⟩ : ∃ V, V = w1.setCell ⟨w.heap.size + 1 + 1, 8, none⟩ (.slice A1 m c1) := ⟨_, rfl⟩
  have BXq : Hid (BoxJ V w.heap.size j A m c) := Lib.hid (by rw [hV]; exact BX.out.other (by omega))
  have BRq : Hid (BoxJ V (w.heap.size + 1) jb0 none 0 0) := Lib.hid (by rw [hV]; exact BR.out.other (by omega))
  have BOq : Hid (BoxJ V (w.heap.size + 1 + 1) j A1 m c1) := Lib.hid (by rw [hV]; exact BO.out.set (by kernel_rfl))
  have NNq : Hid (NO W.heap.size V A1 m c1 j.needs) := Lib.hid (by rw [hV]; exact NN.out.set HSZ.out)
  have HBq : Hid (Below w.heap.size w V) := Lib.hid (by rw [hV]; exact HB.out.setCell (p := ⟨_, 8, none⟩) (show w.heap.size ≤ w.heap.size + 1 + 1 by omega) _)
  have q0 := BXq.out.c0
  have q1 := BXq.out.c1
  have q2 := BXq.out.c2
  have q3 := BXq.out.c3
  have q4 := BXq.out.c4
  have q5 := BXq.out.c5
  have q6 := BXq.out.c6
  have q7 := BXq.out.c7
  have q8 := BXq.out.c8
  have q9 := BXq.out.c9
  have q10 := BXq.out.c10
  have q11 := BXq.out.c11
  have q12 := BXq.out.c12
  rw [hV] at q0 q1 q2 q3 q4 q5 q6 q7 q8 q9 q10 q11 q12
  clear BX BR BO NN HB
  have BX := BXq
  have BR := BRq
  have BO := BOq
  have NN := NNq
  have HB := HBq
  clear BXq BRq BOq NNq HBq
  have JA := Lib.hid (JW.out.next HB.out)
  go_wp2_with fail
  rw [← hV]
  clear hV y8 o8
  refine (jobRight_b JA.out RJ.out).mono ?_
  rintro e w2 ⟨rfl, hb⟩
  have HBq := Lib.hid (HB.out.trans (hb.mono HB.out.size))
  clear HB
  have HB := HBq
  clear HBq
  have BXq := Lib.hid (BX.out.next hb)
  clear BX
  have BX := BXq
  clear BXq
  have BRq := Lib.hid (BR.out.next hb)
  clear BR
  have BR := BRq
  clear BRq
  have BOq := Lib.hid (BO.out.next hb)
  clear BO
  have BO := BOq
  clear BOq
  have NNq := Lib.hid (NN.out.next hb)
  clear NN
  have NN := NNq
  clear NNq
  clear hb
  clear q0 q1 q2 q3 q4 q5 q6 q7 q8 q9 q10 q11 q12
  have q0 := BX.out.c0
  have q1 := BX.out.c1
  have q2 := BX.out.c2
  have q3 := BX.out.c3
  have q4 := BX.out.c4
  have q5 := BX.out.c5
  have q6 := BX.out.c6
  have q7 := BX.out.c7
  have q8 := BX.out.c8
  have q9 := BX.out.c9
  have q10 := BX.out.c10
  have q11 := BX.out.c11
  have q12 := BX.out.c12
  clear JA
  go_wp2_with fail
  refine (whenRight_b now _ _ TN.out).mono ?_
  rintro e wz ⟨rfl, rfl⟩
  have o0 := BO.out.c0
  have o1 := BO.out.c1
  have o2 := BO.out.c2
  have o3 := BO.out.c3
  have o4 := BO.out.c4
  have o5 := BO.out.c5
  have o6 := BO.out.c6
  have o7 := BO.out.c7
  have o8 := BO.out.c8
  have o9 := BO.out.c9
  have o10 := BO.out.c10
  have o11 := BO.out.c11
  have o12 := BO.out.c12
  have p0 := BR.out.c0
  have v0 := BR.out.frozen 0
  have p1 := BR.out.c1
  have v1 := BR.out.frozen 1
  have p2 := BR.out.c2
  have v2 := BR.out.frozen 2
  have p3 := BR.out.c3
  have v3 := BR.out.frozen 3
  have p4 := BR.out.c4
  have v4 := BR.out.frozen 4
  have p5 := BR.out.c5
  have v5 := BR.out.frozen 5
  have p6 := BR.out.c6
  have v6 := BR.out.frozen 6
  have p7 := BR.out.c7
  have v7 := BR.out.frozen 7
  have p8 := BR.out.c8
  have v8 := BR.out.frozen 8
  have p9 := BR.out.c9
  have v9 := BR.out.frozen 9
  have p10 := BR.out.c10
  have v10 := BR.out.frozen 10
  have p11 := BR.out.c11
  have v11 := BR.out.frozen 11
  have p12 := BR.out.c12
  have v12 := BR.out.frozen 12
  simp only [jb0, sp0] at p0 p1 p2 p3 p4 p5 p6 p7 p8 p9 p10 p11 p12
  go_wp2
  have HBF := below_store (v0 := .int .i64 j.id) (v1 := .int .i64 j.spec.nodes) (v2 := .int .i64 j.spec.cores) (v3 := .int .i64 j.spec.gpus) (v4 := .string j.spec.tag) (v5 := .bool j.spec.whole) (v6 := .int .i64 j.spec.long) (v7 := .int .i64 j.spec.prio) (v8 := .slice A1 m c1) (v9 := .int .i64 j.state) (v10 := .int .i64 j.came) (v11 := .int .i64 j.frm) (v12 := .int .i64 j.to) HB.out (show w.heap.size ≤ w.heap.size + 1 by omega)
  have b1 := BR.out.store j A1 m c1
  have r0 := b1.c0
  have r1 := b1.c1
  have r2 := b1.c2
  have r3 := b1.c3
  have r4 := b1.c4
  have r5 := b1.c5
  have r6 := b1.c6
  have r7 := b1.c7
  have r8 := b1.c8
  have r9 := b1.c9
  have r10 := b1.c10
  have r11 := b1.c11
  have r12 := b1.c12
  refine bodyPost_ret (v := .tuple #[.agg #[.int .i64 j.id, .int .i64 j.spec.nodes, .int .i64 j.spec.cores, .int .i64 j.spec.gpus, .string j.spec.tag, .bool j.spec.whole, .int .i64 j.spec.long, .int .i64 j.spec.prio, .slice A1 m c1, .int .i64 j.state, .int .i64 j.came, .int .i64 j.frm, .int .i64 j.to], .int .i64 1]) (by simp [results, Try.results42, go_sem, r0, r1, r2, r3, r4, r5, r6, r7, r8, r9, r10, r11, r12]) rfl ⟨⟨A1, m, c1, rfl, ((((((((((((((NN.out.set (show w.heap.size + 1 < W.heap.size from Nat.lt_of_succ_lt HSZ.out)).set (show w.heap.size + 1 < W.heap.size from Nat.lt_of_succ_lt HSZ.out)).set (show w.heap.size + 1 < W.heap.size from Nat.lt_of_succ_lt HSZ.out)).set (show w.heap.size + 1 < W.heap.size from Nat.lt_of_succ_lt HSZ.out)).set (show w.heap.size + 1 < W.heap.size from Nat.lt_of_succ_lt HSZ.out)).set (show w.heap.size + 1 < W.heap.size from Nat.lt_of_succ_lt HSZ.out)).set (show w.heap.size + 1 < W.heap.size from Nat.lt_of_succ_lt HSZ.out)).set (show w.heap.size + 1 < W.heap.size from Nat.lt_of_succ_lt HSZ.out)).set (show w.heap.size + 1 < W.heap.size from Nat.lt_of_succ_lt HSZ.out)).set (show w.heap.size + 1 < W.heap.size from Nat.lt_of_succ_lt HSZ.out)).set (show w.heap.size + 1 < W.heap.size from Nat.lt_of_succ_lt HSZ.out)).set (show w.heap.size + 1 < W.heap.size from Nat.lt_of_succ_lt HSZ.out)).set (show w.heap.size + 1 < W.heap.size from Nat.lt_of_succ_lt HSZ.out))).same JW.out HML.out, NN.out.fresh (Nat.le_of_lt (Nat.lt_of_succ_lt (Nat.lt_of_succ_lt HSZ.out)))⟩, HBF⟩

set_option maxRecDepth 100000 in
set_option maxHeartbeats 8000000 in
theorem do_6 (A : Option Addr) (m c : Nat) (j : Jb) (what now : Int) (w : World) (hj : JAsk w A m c j) (hm : m ≤ 1000) (hr : rightJ j = true) (h1 : ¬ what < 1) (h2 : ¬ 7 < what) (h3 : timeB now = true) (h4 : ¬ now < j.came) (h5 : now < j.frm) :
    Calls Try.prog 42 #[.agg #[.int .i64 j.id, .int .i64 j.spec.nodes, .int .i64 j.spec.cores, .int .i64 j.spec.gpus, .string j.spec.tag, .bool j.spec.whole, .int .i64 j.spec.long, .int .i64 j.spec.prio, .slice A m c, .int .i64 j.state, .int .i64 j.came, .int .i64 j.frm, .int .i64 j.to], .int .i64 what, .int .i64 now] w (JPostO j 1 w) := by
  obtain ⟨W2, hW2⟩ : ∃ W, W = (w.alloc (jO j A m c)).alloc (jO jb0 none 0 0) := ⟨_, rfl⟩
  have hs2 : W2.heap.size = w.heap.size + 1 + 1 := by rw [hW2]; simp
  have bx2 : BoxJ W2 w.heap.size j A m c := by rw [hW2]; exact (boxJ_new w j A m c).next ((Below.refl _ _).alloc (Nat.le_refl _) _)
  have br2 : BoxJ W2 (w.heap.size + 1) jb0 none 0 0 := by
    have := boxJ_new (w.alloc (jO j A m c)) jb0 none 0 0
    rw [show (w.alloc (jO j A m c)).heap.size = w.heap.size + 1 by simp] at this
    rw [hW2]; exact this
  have hb2 : Below w.heap.size w W2 := by rw [hW2]; exact ((Below.refl _ _).alloc (Nat.le_refl _) _).alloc (by simp) _
  obtain ⟨W, hW⟩ : ∃ W, W = W2.alloc (jO j A m c) := ⟨_, rfl⟩
  have hb3 : Below W2.heap.size W2 W := by rw [hW]; exact (Below.refl _ _).alloc (Nat.le_refl _) _
  have BX : Hid (BoxJ W w.heap.size j A m c) := Lib.hid (bx2.next hb3)
  have BR : Hid (BoxJ W (w.heap.size + 1) jb0 none 0 0) := Lib.hid (br2.next hb3)
  have BO : Hid (BoxJ W (w.heap.size + 1 + 1) j A m c) := Lib.hid (by
    have := boxJ_new W2 j A m c
    rw [hs2] at this
    rw [hW]; exact this)
  have HB : Hid (Below w.heap.size w W) := Lib.hid (hb2.trans (hb3.mono hb2.size))
  have HSZ : Hid (w.heap.size + 1 + 1 < W.heap.size) := Lib.hid BO.out.lt
  have JW := Lib.hid hj
  have JA := Lib.hid (hj.next HB.out)
  have HM : Hid (m ≤ 1000) := Lib.hid hm
  have HML : Hid (m ≤ maxLen) := Lib.hid hj.few
  have q0 := bx2.c0
  have q1 := bx2.c1
  have q2 := bx2.c2
  have q3 := bx2.c3
  have q4 := bx2.c4
  have q5 := bx2.c5
  have q6 := bx2.c6
  have q7 := bx2.c7
  have q8 := bx2.c8
  have q9 := bx2.c9
  have q10 := bx2.c10
  have q11 := bx2.c11
  have q12 := bx2.c12
  have s8 := BX.out.c8
  rw [hW2] at hW
  rw [hW] at s8
  rw [hW2] at q0 q1 q2 q3 q4 q5 q6 q7 q8 q9 q10 q11 q12
  unfold jO at hW s8 q0 q1 q2 q3 q4 q5 q6 q7 q8 q9 q10 q11 q12
  simp only [jb0, sp0] at hW s8 q0 q1 q2 q3 q4 q5 q6 q7 q8 q9 q10 q11 q12
  clear hb2 hb3 bx2 br2 hs2 hW2 W2 hj hm
  have RJ := Lib.hid hr
  have d1 : decide (what < 1) = false := decide_eq_false h1
  have d2 : decide (7 < what) = false := decide_eq_false h2
  have TN := Lib.hid h3
  have d4 : decide (now < j.came) = false := decide_eq_false h4
  have d5 : decide (now < j.frm) = true := decide_eq_true h5
  clear hr h1 h2 h3 h4 h5
  go_enter Try.func42, Try.ntmps42
  go_wp2_with fail
  rw [← hW]
  clear hW
  refine (clone_own JA.out.reads JA.out.nil HM.out).mono ?_
  rintro e w1 ⟨⟨A1, c1, rfl, hno⟩, hb⟩
  have NN := Lib.hid hno
  clear hno
  have HBq := Lib.hid (HB.out.trans (hb.mono HB.out.size))
  clear HB
  have HB := HBq
  clear HBq
  have BXq := Lib.hid (BX.out.next hb)
  clear BX
  have BX := BXq
  clear BXq
  have BRq := Lib.hid (BR.out.next hb)
  clear BR
  have BR := BRq
  clear BRq
  have BOq := Lib.hid (BO.out.next hb)
  clear BO
  have BO := BOq
  clear BOq
  clear hb
  clear q0 q1 q2 q3 q4 q5 q6 q7 q8 q9 q10 q11 q12
  clear s8 JA
  have y8 := BO.out.frozen 8
  have o8 := BO.out.c8
  obtain ⟨V, hV⟩ : ∃ V, V = w1.setCell ⟨w.heap.size + 1 + 1, 8, none⟩ (.slice A1 m c1) := ⟨_, rfl⟩
  have BXq : Hid (BoxJ V w.heap.size j A m c) := Lib.hid (by rw [hV]; exact BX.out.other (by omega))
  have BRq : Hid (BoxJ V (w.heap.size + 1) jb0 none 0 0) := Lib.hid (by rw [hV]; exact BR.out.other (by omega))
  have BOq : Hid (BoxJ V (w.heap.size + 1 + 1) j A1 m c1) := Lib.hid (by rw [hV]; exact BO.out.set (by kernel_rfl))
  have NNq : Hid (NO W.heap.size V A1 m c1 j.needs) := Lib.hid (by rw [hV]; exact NN.out.set HSZ.out)
  have HBq : Hid (Below w.heap.size w V) := Lib.hid (by rw [hV]; exact HB.out.setCell (p := ⟨_, 8, none⟩) (show w.heap.size ≤ w.heap.size + 1 + 1 by omega) _)
  have q0 := BXq.out.c0
  have q1 := BXq.out.c1
  have q2 := BXq.out.c2
  have q3 := BXq.out.c3
  have q4 := BXq.out.c4
  have q5 := BXq.out.c5
  have q6 := BXq.out.c6
  have q7 := BXq.out.c7
  have q8 := BXq.out.c8
  have q9 := BXq.out.c9
  have q10 := BXq.out.c10
  have q11 := BXq.out.c11
  have q12 := BXq.out.c12
  rw [hV] at q0 q1 q2 q3 q4 q5 q6 q7 q8 q9 q10 q11 q12
  clear BX BR BO NN HB
  have BX := BXq
  have BR := BRq
  have BO := BOq
  have NN := NNq
  have HB := HBq
  clear BXq BRq BOq NNq HBq
  have JA := Lib.hid (JW.out.next HB.out)
  go_wp2_with fail
  rw [← hV]
  clear hV y8 o8
  refine (jobRight_b JA.out RJ.out).mono ?_
  rintro e w2 ⟨rfl, hb⟩
  have HBq := Lib.hid (HB.out.trans (hb.mono HB.out.size))
  clear HB
  have HB := HBq
  clear HBq
  have BXq := Lib.hid (BX.out.next hb)
  clear BX
  have BX := BXq
  clear BXq
  have BRq := Lib.hid (BR.out.next hb)
  clear BR
  have BR := BRq
  clear BRq
  have BOq := Lib.hid (BO.out.next hb)
  clear BO
  have BO := BOq
  clear BOq
  have NNq := Lib.hid (NN.out.next hb)
  clear NN
  have NN := NNq
  clear NNq
  clear hb
  clear q0 q1 q2 q3 q4 q5 q6 q7 q8 q9 q10 q11 q12
  have q0 := BX.out.c0
  have q1 := BX.out.c1
  have q2 := BX.out.c2
  have q3 := BX.out.c3
  have q4 := BX.out.c4
  have q5 := BX.out.c5
  have q6 := BX.out.c6
  have q7 := BX.out.c7
  have q8 := BX.out.c8
  have q9 := BX.out.c9
  have q10 := BX.out.c10
  have q11 := BX.out.c11
  have q12 := BX.out.c12
  clear JA
  go_wp2_with fail
  refine (whenRight_b now _ _ TN.out).mono ?_
  rintro e wz ⟨rfl, rfl⟩
  have o0 := BO.out.c0
  have o1 := BO.out.c1
  have o2 := BO.out.c2
  have o3 := BO.out.c3
  have o4 := BO.out.c4
  have o5 := BO.out.c5
  have o6 := BO.out.c6
  have o7 := BO.out.c7
  have o8 := BO.out.c8
  have o9 := BO.out.c9
  have o10 := BO.out.c10
  have o11 := BO.out.c11
  have o12 := BO.out.c12
  have p0 := BR.out.c0
  have v0 := BR.out.frozen 0
  have p1 := BR.out.c1
  have v1 := BR.out.frozen 1
  have p2 := BR.out.c2
  have v2 := BR.out.frozen 2
  have p3 := BR.out.c3
  have v3 := BR.out.frozen 3
  have p4 := BR.out.c4
  have v4 := BR.out.frozen 4
  have p5 := BR.out.c5
  have v5 := BR.out.frozen 5
  have p6 := BR.out.c6
  have v6 := BR.out.frozen 6
  have p7 := BR.out.c7
  have v7 := BR.out.frozen 7
  have p8 := BR.out.c8
  have v8 := BR.out.frozen 8
  have p9 := BR.out.c9
  have v9 := BR.out.frozen 9
  have p10 := BR.out.c10
  have v10 := BR.out.frozen 10
  have p11 := BR.out.c11
  have v11 := BR.out.frozen 11
  have p12 := BR.out.c12
  have v12 := BR.out.frozen 12
  simp only [jb0, sp0] at p0 p1 p2 p3 p4 p5 p6 p7 p8 p9 p10 p11 p12
  go_wp2
  have HBF := below_store (v0 := .int .i64 j.id) (v1 := .int .i64 j.spec.nodes) (v2 := .int .i64 j.spec.cores) (v3 := .int .i64 j.spec.gpus) (v4 := .string j.spec.tag) (v5 := .bool j.spec.whole) (v6 := .int .i64 j.spec.long) (v7 := .int .i64 j.spec.prio) (v8 := .slice A1 m c1) (v9 := .int .i64 j.state) (v10 := .int .i64 j.came) (v11 := .int .i64 j.frm) (v12 := .int .i64 j.to) HB.out (show w.heap.size ≤ w.heap.size + 1 by omega)
  have b1 := BR.out.store j A1 m c1
  have r0 := b1.c0
  have r1 := b1.c1
  have r2 := b1.c2
  have r3 := b1.c3
  have r4 := b1.c4
  have r5 := b1.c5
  have r6 := b1.c6
  have r7 := b1.c7
  have r8 := b1.c8
  have r9 := b1.c9
  have r10 := b1.c10
  have r11 := b1.c11
  have r12 := b1.c12
  refine bodyPost_ret (v := .tuple #[.agg #[.int .i64 j.id, .int .i64 j.spec.nodes, .int .i64 j.spec.cores, .int .i64 j.spec.gpus, .string j.spec.tag, .bool j.spec.whole, .int .i64 j.spec.long, .int .i64 j.spec.prio, .slice A1 m c1, .int .i64 j.state, .int .i64 j.came, .int .i64 j.frm, .int .i64 j.to], .int .i64 1]) (by simp [results, Try.results42, go_sem, r0, r1, r2, r3, r4, r5, r6, r7, r8, r9, r10, r11, r12]) rfl ⟨⟨A1, m, c1, rfl, ((((((((((((((NN.out.set (show w.heap.size + 1 < W.heap.size from Nat.lt_of_succ_lt HSZ.out)).set (show w.heap.size + 1 < W.heap.size from Nat.lt_of_succ_lt HSZ.out)).set (show w.heap.size + 1 < W.heap.size from Nat.lt_of_succ_lt HSZ.out)).set (show w.heap.size + 1 < W.heap.size from Nat.lt_of_succ_lt HSZ.out)).set (show w.heap.size + 1 < W.heap.size from Nat.lt_of_succ_lt HSZ.out)).set (show w.heap.size + 1 < W.heap.size from Nat.lt_of_succ_lt HSZ.out)).set (show w.heap.size + 1 < W.heap.size from Nat.lt_of_succ_lt HSZ.out)).set (show w.heap.size + 1 < W.heap.size from Nat.lt_of_succ_lt HSZ.out)).set (show w.heap.size + 1 < W.heap.size from Nat.lt_of_succ_lt HSZ.out)).set (show w.heap.size + 1 < W.heap.size from Nat.lt_of_succ_lt HSZ.out)).set (show w.heap.size + 1 < W.heap.size from Nat.lt_of_succ_lt HSZ.out)).set (show w.heap.size + 1 < W.heap.size from Nat.lt_of_succ_lt HSZ.out)).set (show w.heap.size + 1 < W.heap.size from Nat.lt_of_succ_lt HSZ.out))).same JW.out HML.out, NN.out.fresh (Nat.le_of_lt (Nat.lt_of_succ_lt (Nat.lt_of_succ_lt HSZ.out)))⟩, HBF⟩

set_option maxRecDepth 100000 in
set_option maxHeartbeats 8000000 in
theorem do_7 (A : Option Addr) (m c : Nat) (j : Jb) (what now : Int) (w : World) (hj : JAsk w A m c j) (hm : m ≤ 1000) (hr : rightJ j = true) (h1 : ¬ what < 1) (h2 : ¬ 7 < what) (h3 : timeB now = true) (h4 : ¬ now < j.came) (h5 : ¬ now < j.frm) (s : Int) (hs : nextP j.state what = (s, false)) :
    Calls Try.prog 42 #[.agg #[.int .i64 j.id, .int .i64 j.spec.nodes, .int .i64 j.spec.cores, .int .i64 j.spec.gpus, .string j.spec.tag, .bool j.spec.whole, .int .i64 j.spec.long, .int .i64 j.spec.prio, .slice A m c, .int .i64 j.state, .int .i64 j.came, .int .i64 j.frm, .int .i64 j.to], .int .i64 what, .int .i64 now] w (JPostO j 8 w) := by
  obtain ⟨W2, hW2⟩ : ∃ W, W = (w.alloc (jO j A m c)).alloc (jO jb0 none 0 0) := ⟨_, rfl⟩
  have hs2 : W2.heap.size = w.heap.size + 1 + 1 := by rw [hW2]; simp
  have bx2 : BoxJ W2 w.heap.size j A m c := by rw [hW2]; exact (boxJ_new w j A m c).next ((Below.refl _ _).alloc (Nat.le_refl _) _)
  have br2 : BoxJ W2 (w.heap.size + 1) jb0 none 0 0 := by
    have := boxJ_new (w.alloc (jO j A m c)) jb0 none 0 0
    rw [show (w.alloc (jO j A m c)).heap.size = w.heap.size + 1 by simp] at this
    rw [hW2]; exact this
  have hb2 : Below w.heap.size w W2 := by rw [hW2]; exact ((Below.refl _ _).alloc (Nat.le_refl _) _).alloc (by simp) _
  obtain ⟨W, hW⟩ : ∃ W, W = W2.alloc (jO j A m c) := ⟨_, rfl⟩
  have hb3 : Below W2.heap.size W2 W := by rw [hW]; exact (Below.refl _ _).alloc (Nat.le_refl _) _
  have BX : Hid (BoxJ W w.heap.size j A m c) := Lib.hid (bx2.next hb3)
  have BR : Hid (BoxJ W (w.heap.size + 1) jb0 none 0 0) := Lib.hid (br2.next hb3)
  have BO : Hid (BoxJ W (w.heap.size + 1 + 1) j A m c) := Lib.hid (by
    have := boxJ_new W2 j A m c
    rw [hs2] at this
    rw [hW]; exact this)
  have HB : Hid (Below w.heap.size w W) := Lib.hid (hb2.trans (hb3.mono hb2.size))
  have HSZ : Hid (w.heap.size + 1 + 1 < W.heap.size) := Lib.hid BO.out.lt
  have JW := Lib.hid hj
  have JA := Lib.hid (hj.next HB.out)
  have HM : Hid (m ≤ 1000) := Lib.hid hm
  have HML : Hid (m ≤ maxLen) := Lib.hid hj.few
  have q0 := bx2.c0
  have q1 := bx2.c1
  have q2 := bx2.c2
  have q3 := bx2.c3
  have q4 := bx2.c4
  have q5 := bx2.c5
  have q6 := bx2.c6
  have q7 := bx2.c7
  have q8 := bx2.c8
  have q9 := bx2.c9
  have q10 := bx2.c10
  have q11 := bx2.c11
  have q12 := bx2.c12
  have s8 := BX.out.c8
  rw [hW2] at hW
  rw [hW] at s8
  rw [hW2] at q0 q1 q2 q3 q4 q5 q6 q7 q8 q9 q10 q11 q12
  unfold jO at hW s8 q0 q1 q2 q3 q4 q5 q6 q7 q8 q9 q10 q11 q12
  simp only [jb0, sp0] at hW s8 q0 q1 q2 q3 q4 q5 q6 q7 q8 q9 q10 q11 q12
  clear hb2 hb3 bx2 br2 hs2 hW2 W2 hj hm
  have RJ := Lib.hid hr
  have d1 : decide (what < 1) = false := decide_eq_false h1
  have d2 : decide (7 < what) = false := decide_eq_false h2
  have TN := Lib.hid h3
  have d4 : decide (now < j.came) = false := decide_eq_false h4
  have d5 : decide (now < j.frm) = false := decide_eq_false h5
  have hw1 : 1 ≤ what := by omega
  have hw2 : what ≤ 7 := by omega
  have NX := Lib.hid hs
  clear hr h1 h2 h3 h4 h5 hs
  go_enter Try.func42, Try.ntmps42
  go_wp2_with fail
  rw [← hW]
  clear hW
  refine (clone_own JA.out.reads JA.out.nil HM.out).mono ?_
  rintro e w1 ⟨⟨A1, c1, rfl, hno⟩, hb⟩
  have NN := Lib.hid hno
  clear hno
  have HBq := Lib.hid (HB.out.trans (hb.mono HB.out.size))
  clear HB
  have HB := HBq
  clear HBq
  have BXq := Lib.hid (BX.out.next hb)
  clear BX
  have BX := BXq
  clear BXq
  have BRq := Lib.hid (BR.out.next hb)
  clear BR
  have BR := BRq
  clear BRq
  have BOq := Lib.hid (BO.out.next hb)
  clear BO
  have BO := BOq
  clear BOq
  clear hb
  clear q0 q1 q2 q3 q4 q5 q6 q7 q8 q9 q10 q11 q12
  clear s8 JA
  have y8 := BO.out.frozen 8
  have o8 := BO.out.c8
  obtain ⟨V, hV⟩ : ∃ V, V = w1.setCell ⟨w.heap.size + 1 + 1, 8, none⟩ (.slice A1 m c1) := ⟨_, rfl⟩
  have BXq : Hid (BoxJ V w.heap.size j A m c) := Lib.hid (by rw [hV]; exact BX.out.other (by omega))
  have BRq : Hid (BoxJ V (w.heap.size + 1) jb0 none 0 0) := Lib.hid (by rw [hV]; exact BR.out.other (by omega))
  have BOq : Hid (BoxJ V (w.heap.size + 1 + 1) j A1 m c1) := Lib.hid (by rw [hV]; exact BO.out.set (by kernel_rfl))
  have NNq : Hid (NO W.heap.size V A1 m c1 j.needs) := Lib.hid (by rw [hV]; exact NN.out.set HSZ.out)
  have HBq : Hid (Below w.heap.size w V) := Lib.hid (by rw [hV]; exact HB.out.setCell (p := ⟨_, 8, none⟩) (show w.heap.size ≤ w.heap.size + 1 + 1 by omega) _)
  have q0 := BXq.out.c0
  have q1 := BXq.out.c1
  have q2 := BXq.out.c2
  have q3 := BXq.out.c3
  have q4 := BXq.out.c4
  have q5 := BXq.out.c5
  have q6 := BXq.out.c6
  have q7 := BXq.out.c7
  have q8 := BXq.out.c8
  have q9 := BXq.out.c9
  have q10 := BXq.out.c10
  have q11 := BXq.out.c11
  have q12 := BXq.out.c12
  rw [hV] at q0 q1 q2 q3 q4 q5 q6 q7 q8 q9 q10 q11 q12
  clear BX BR BO NN HB
  have BX := BXq
  have BR := BRq
  have BO := BOq
  have NN := NNq
  have HB := HBq
  clear BXq BRq BOq NNq HBq
  have JA := Lib.hid (JW.out.next HB.out)
  go_wp2_with fail
  rw [← hV]
  clear hV y8 o8
  refine (jobRight_b JA.out RJ.out).mono ?_
  rintro e w2 ⟨rfl, hb⟩
  have HBq := Lib.hid (HB.out.trans (hb.mono HB.out.size))
  clear HB
  have HB := HBq
  clear HBq
  have BXq := Lib.hid (BX.out.next hb)
  clear BX
  have BX := BXq
  clear BXq
  have BRq := Lib.hid (BR.out.next hb)
  clear BR
  have BR := BRq
  clear BRq
  have BOq := Lib.hid (BO.out.next hb)
  clear BO
  have BO := BOq
  clear BOq
  have NNq := Lib.hid (NN.out.next hb)
  clear NN
  have NN := NNq
  clear NNq
  clear hb
  clear q0 q1 q2 q3 q4 q5 q6 q7 q8 q9 q10 q11 q12
  have q0 := BX.out.c0
  have q1 := BX.out.c1
  have q2 := BX.out.c2
  have q3 := BX.out.c3
  have q4 := BX.out.c4
  have q5 := BX.out.c5
  have q6 := BX.out.c6
  have q7 := BX.out.c7
  have q8 := BX.out.c8
  have q9 := BX.out.c9
  have q10 := BX.out.c10
  have q11 := BX.out.c11
  have q12 := BX.out.c12
  clear JA
  go_wp2_with fail
  refine (whenRight_b now _ _ TN.out).mono ?_
  rintro e wz ⟨rfl, rfl⟩
  go_wp2_with fail
  refine (next_b hw1 hw2 NX.out).mono ?_
  rintro e wz ⟨rfl, rfl⟩
  have o0 := BO.out.c0
  have o1 := BO.out.c1
  have o2 := BO.out.c2
  have o3 := BO.out.c3
  have o4 := BO.out.c4
  have o5 := BO.out.c5
  have o6 := BO.out.c6
  have o7 := BO.out.c7
  have o8 := BO.out.c8
  have o9 := BO.out.c9
  have o10 := BO.out.c10
  have o11 := BO.out.c11
  have o12 := BO.out.c12
  have p0 := BR.out.c0
  have v0 := BR.out.frozen 0
  have p1 := BR.out.c1
  have v1 := BR.out.frozen 1
  have p2 := BR.out.c2
  have v2 := BR.out.frozen 2
  have p3 := BR.out.c3
  have v3 := BR.out.frozen 3
  have p4 := BR.out.c4
  have v4 := BR.out.frozen 4
  have p5 := BR.out.c5
  have v5 := BR.out.frozen 5
  have p6 := BR.out.c6
  have v6 := BR.out.frozen 6
  have p7 := BR.out.c7
  have v7 := BR.out.frozen 7
  have p8 := BR.out.c8
  have v8 := BR.out.frozen 8
  have p9 := BR.out.c9
  have v9 := BR.out.frozen 9
  have p10 := BR.out.c10
  have v10 := BR.out.frozen 10
  have p11 := BR.out.c11
  have v11 := BR.out.frozen 11
  have p12 := BR.out.c12
  have v12 := BR.out.frozen 12
  simp only [jb0, sp0] at p0 p1 p2 p3 p4 p5 p6 p7 p8 p9 p10 p11 p12
  go_wp2
  have HBF := below_store (v0 := .int .i64 j.id) (v1 := .int .i64 j.spec.nodes) (v2 := .int .i64 j.spec.cores) (v3 := .int .i64 j.spec.gpus) (v4 := .string j.spec.tag) (v5 := .bool j.spec.whole) (v6 := .int .i64 j.spec.long) (v7 := .int .i64 j.spec.prio) (v8 := .slice A1 m c1) (v9 := .int .i64 j.state) (v10 := .int .i64 j.came) (v11 := .int .i64 j.frm) (v12 := .int .i64 j.to) HB.out (show w.heap.size ≤ w.heap.size + 1 by omega)
  have b1 := BR.out.store j A1 m c1
  have r0 := b1.c0
  have r1 := b1.c1
  have r2 := b1.c2
  have r3 := b1.c3
  have r4 := b1.c4
  have r5 := b1.c5
  have r6 := b1.c6
  have r7 := b1.c7
  have r8 := b1.c8
  have r9 := b1.c9
  have r10 := b1.c10
  have r11 := b1.c11
  have r12 := b1.c12
  refine bodyPost_ret (v := .tuple #[.agg #[.int .i64 j.id, .int .i64 j.spec.nodes, .int .i64 j.spec.cores, .int .i64 j.spec.gpus, .string j.spec.tag, .bool j.spec.whole, .int .i64 j.spec.long, .int .i64 j.spec.prio, .slice A1 m c1, .int .i64 j.state, .int .i64 j.came, .int .i64 j.frm, .int .i64 j.to], .int .i64 8]) (by simp [results, Try.results42, go_sem, r0, r1, r2, r3, r4, r5, r6, r7, r8, r9, r10, r11, r12]) rfl ⟨⟨A1, m, c1, rfl, ((((((((((((((NN.out.set (show w.heap.size + 1 < W.heap.size from Nat.lt_of_succ_lt HSZ.out)).set (show w.heap.size + 1 < W.heap.size from Nat.lt_of_succ_lt HSZ.out)).set (show w.heap.size + 1 < W.heap.size from Nat.lt_of_succ_lt HSZ.out)).set (show w.heap.size + 1 < W.heap.size from Nat.lt_of_succ_lt HSZ.out)).set (show w.heap.size + 1 < W.heap.size from Nat.lt_of_succ_lt HSZ.out)).set (show w.heap.size + 1 < W.heap.size from Nat.lt_of_succ_lt HSZ.out)).set (show w.heap.size + 1 < W.heap.size from Nat.lt_of_succ_lt HSZ.out)).set (show w.heap.size + 1 < W.heap.size from Nat.lt_of_succ_lt HSZ.out)).set (show w.heap.size + 1 < W.heap.size from Nat.lt_of_succ_lt HSZ.out)).set (show w.heap.size + 1 < W.heap.size from Nat.lt_of_succ_lt HSZ.out)).set (show w.heap.size + 1 < W.heap.size from Nat.lt_of_succ_lt HSZ.out)).set (show w.heap.size + 1 < W.heap.size from Nat.lt_of_succ_lt HSZ.out)).set (show w.heap.size + 1 < W.heap.size from Nat.lt_of_succ_lt HSZ.out))).same JW.out HML.out, NN.out.fresh (Nat.le_of_lt (Nat.lt_of_succ_lt (Nat.lt_of_succ_lt HSZ.out)))⟩, HBF⟩

set_option maxRecDepth 100000 in
set_option maxHeartbeats 8000000 in
theorem do_8 (A : Option Addr) (m c : Nat) (j : Jb) (what now : Int) (w : World) (hj : JAsk w A m c j) (hm : m ≤ 1000) (hr : rightJ j = true) (h1 : ¬ what < 1) (h2 : ¬ 7 < what) (h3 : timeB now = true) (h4 : ¬ now < j.came) (h5 : ¬ now < j.frm) (s : Int) (hs : nextP j.state what = (s, true)) (h7 : ¬ s = 2) (h8 : overJ s = false) (his : I64 s) :
    Calls Try.prog 42 #[.agg #[.int .i64 j.id, .int .i64 j.spec.nodes, .int .i64 j.spec.cores, .int .i64 j.spec.gpus, .string j.spec.tag, .bool j.spec.whole, .int .i64 j.spec.long, .int .i64 j.spec.prio, .slice A m c, .int .i64 j.state, .int .i64 j.came, .int .i64 j.frm, .int .i64 j.to], .int .i64 what, .int .i64 now] w (JPostO ⟨j.id, j.spec, j.needs, s, j.came, j.frm, j.to⟩ 0 w) := by
  obtain ⟨W2, hW2⟩ : ∃ W, W = (w.alloc (jO j A m c)).alloc (jO jb0 none 0 0) := ⟨_, rfl⟩
  have hs2 : W2.heap.size = w.heap.size + 1 + 1 := by rw [hW2]; simp
  have bx2 : BoxJ W2 w.heap.size j A m c := by rw [hW2]; exact (boxJ_new w j A m c).next ((Below.refl _ _).alloc (Nat.le_refl _) _)
  have br2 : BoxJ W2 (w.heap.size + 1) jb0 none 0 0 := by
    have := boxJ_new (w.alloc (jO j A m c)) jb0 none 0 0
    rw [show (w.alloc (jO j A m c)).heap.size = w.heap.size + 1 by simp] at this
    rw [hW2]; exact this
  have hb2 : Below w.heap.size w W2 := by rw [hW2]; exact ((Below.refl _ _).alloc (Nat.le_refl _) _).alloc (by simp) _
  obtain ⟨W, hW⟩ : ∃ W, W = W2.alloc (jO j A m c) := ⟨_, rfl⟩
  have hb3 : Below W2.heap.size W2 W := by rw [hW]; exact (Below.refl _ _).alloc (Nat.le_refl _) _
  have BX : Hid (BoxJ W w.heap.size j A m c) := Lib.hid (bx2.next hb3)
  have BR : Hid (BoxJ W (w.heap.size + 1) jb0 none 0 0) := Lib.hid (br2.next hb3)
  have BO : Hid (BoxJ W (w.heap.size + 1 + 1) j A m c) := Lib.hid (by
    have := boxJ_new W2 j A m c
    rw [hs2] at this
    rw [hW]; exact this)
  have HB : Hid (Below w.heap.size w W) := Lib.hid (hb2.trans (hb3.mono hb2.size))
  have HSZ : Hid (w.heap.size + 1 + 1 < W.heap.size) := Lib.hid BO.out.lt
  have JW := Lib.hid hj
  have JA := Lib.hid (hj.next HB.out)
  have HM : Hid (m ≤ 1000) := Lib.hid hm
  have HML : Hid (m ≤ maxLen) := Lib.hid hj.few
  have q0 := bx2.c0
  have q1 := bx2.c1
  have q2 := bx2.c2
  have q3 := bx2.c3
  have q4 := bx2.c4
  have q5 := bx2.c5
  have q6 := bx2.c6
  have q7 := bx2.c7
  have q8 := bx2.c8
  have q9 := bx2.c9
  have q10 := bx2.c10
  have q11 := bx2.c11
  have q12 := bx2.c12
  have s8 := BX.out.c8
  rw [hW2] at hW
  rw [hW] at s8
  rw [hW2] at q0 q1 q2 q3 q4 q5 q6 q7 q8 q9 q10 q11 q12
  unfold jO at hW s8 q0 q1 q2 q3 q4 q5 q6 q7 q8 q9 q10 q11 q12
  simp only [jb0, sp0] at hW s8 q0 q1 q2 q3 q4 q5 q6 q7 q8 q9 q10 q11 q12
  clear hb2 hb3 bx2 br2 hs2 hW2 W2 hj hm
  have RJ := Lib.hid hr
  have d1 : decide (what < 1) = false := decide_eq_false h1
  have d2 : decide (7 < what) = false := decide_eq_false h2
  have TN := Lib.hid h3
  have d4 : decide (now < j.came) = false := decide_eq_false h4
  have d5 : decide (now < j.frm) = false := decide_eq_false h5
  have hw1 : 1 ≤ what := by omega
  have hw2 : what ≤ 7 := by omega
  have NX := Lib.hid hs
  have HI0 : Hid (I64 s) := Lib.hid his
  have HI1 : Hid (I64 j.frm) := Lib.hid JW.out.int.2.2.2.1
  have HI2 : Hid (I64 j.to) := Lib.hid JW.out.int.2.2.2.2.1
  have d7 : (s == 2) = false := by rw [beq_eq_false_iff_ne]; exact h7
  have OV := Lib.hid h8
  clear hr h1 h2 h3 h4 h5 hs his h7 h8
  go_enter Try.func42, Try.ntmps42
  go_wp2_with fail
  rw [← hW]
  clear hW
  refine (clone_own JA.out.reads JA.out.nil HM.out).mono ?_
  rintro e w1 ⟨⟨A1, c1, rfl, hno⟩, hb⟩
  have NN := Lib.hid hno
  clear hno
  have HBq := Lib.hid (HB.out.trans (hb.mono HB.out.size))
  clear HB
  have HB := HBq
  clear HBq
  have BXq := Lib.hid (BX.out.next hb)
  clear BX
  have BX := BXq
  clear BXq
  have BRq := Lib.hid (BR.out.next hb)
  clear BR
  have BR := BRq
  clear BRq
  have BOq := Lib.hid (BO.out.next hb)
  clear BO
  have BO := BOq
  clear BOq
  clear hb
  clear q0 q1 q2 q3 q4 q5 q6 q7 q8 q9 q10 q11 q12
  clear s8 JA
  have y8 := BO.out.frozen 8
  have o8 := BO.out.c8
  obtain ⟨V, hV⟩ : ∃ V, V = w1.setCell ⟨w.heap.size + 1 + 1, 8, none⟩ (.slice A1 m c1) := ⟨_, rfl⟩
  have BXq : Hid (BoxJ V w.heap.size j A m c) := Lib.hid (by rw [hV]; exact BX.out.other (by omega))
  have BRq : Hid (BoxJ V (w.heap.size + 1) jb0 none 0 0) := Lib.hid (by rw [hV]; exact BR.out.other (by omega))
  have BOq : Hid (BoxJ V (w.heap.size + 1 + 1) j A1 m c1) := Lib.hid (by rw [hV]; exact BO.out.set (by kernel_rfl))
  have NNq : Hid (NO W.heap.size V A1 m c1 j.needs) := Lib.hid (by rw [hV]; exact NN.out.set HSZ.out)
  have HBq : Hid (Below w.heap.size w V) := Lib.hid (by rw [hV]; exact HB.out.setCell (p := ⟨_, 8, none⟩) (show w.heap.size ≤ w.heap.size + 1 + 1 by omega) _)
  have q0 := BXq.out.c0
  have q1 := BXq.out.c1
  have q2 := BXq.out.c2
  have q3 := BXq.out.c3
  have q4 := BXq.out.c4
  have q5 := BXq.out.c5
  have q6 := BXq.out.c6
  have q7 := BXq.out.c7
  have q8 := BXq.out.c8
  have q9 := BXq.out.c9
  have q10 := BXq.out.c10
  have q11 := BXq.out.c11
  have q12 := BXq.out.c12
  rw [hV] at q0 q1 q2 q3 q4 q5 q6 q7 q8 q9 q10 q11 q12
  clear BX BR BO NN HB
  have BX := BXq
  have BR := BRq
  have BO := BOq
  have NN := NNq
  have HB := HBq
  clear BXq BRq BOq NNq HBq
  have JA := Lib.hid (JW.out.next HB.out)
  go_wp2_with fail
  rw [← hV]
  clear hV y8 o8
  refine (jobRight_b JA.out RJ.out).mono ?_
  rintro e w2 ⟨rfl, hb⟩
  have HBq := Lib.hid (HB.out.trans (hb.mono HB.out.size))
  clear HB
  have HB := HBq
  clear HBq
  have BXq := Lib.hid (BX.out.next hb)
  clear BX
  have BX := BXq
  clear BXq
  have BRq := Lib.hid (BR.out.next hb)
  clear BR
  have BR := BRq
  clear BRq
  have BOq := Lib.hid (BO.out.next hb)
  clear BO
  have BO := BOq
  clear BOq
  have NNq := Lib.hid (NN.out.next hb)
  clear NN
  have NN := NNq
  clear NNq
  clear hb
  clear q0 q1 q2 q3 q4 q5 q6 q7 q8 q9 q10 q11 q12
  have q0 := BX.out.c0
  have q1 := BX.out.c1
  have q2 := BX.out.c2
  have q3 := BX.out.c3
  have q4 := BX.out.c4
  have q5 := BX.out.c5
  have q6 := BX.out.c6
  have q7 := BX.out.c7
  have q8 := BX.out.c8
  have q9 := BX.out.c9
  have q10 := BX.out.c10
  have q11 := BX.out.c11
  have q12 := BX.out.c12
  clear JA
  go_wp2_with fail
  refine (whenRight_b now _ _ TN.out).mono ?_
  rintro e wz ⟨rfl, rfl⟩
  go_wp2_with fail
  refine (next_b hw1 hw2 NX.out).mono ?_
  rintro e wz ⟨rfl, rfl⟩
  have z0 := BO.out.frozen 9
  have zc0 := BO.out.c9
  have X0 := BO.out.set (j' := ⟨j.id, j.spec, j.needs, s, j.came, j.frm, j.to⟩) (A' := A1) (m' := m) (c' := c1) (k := 9) (v := .int .i64 s) (by kernel_rfl)
  have R0 := BR.out.other (g' := w.heap.size + 1 + 1) (k := 9) (v := .int .i64 s) (by omega)
  go_wp2_with fail
  refine (over_b OV.out).mono ?_
  rintro e wz ⟨rfl, rfl⟩
  have s0 := X0.c0
  have s1 := X0.c1
  have s2 := X0.c2
  have s3 := X0.c3
  have s4 := X0.c4
  have s5 := X0.c5
  have s6 := X0.c6
  have s7 := X0.c7
  have s8 := X0.c8
  have s9 := X0.c9
  have s10 := X0.c10
  have s11 := X0.c11
  have s12 := X0.c12
  simp only at s0 s1 s2 s3 s4 s5 s6 s7 s8 s9 s10 s11 s12
  have p0 := R0.c0
  have v0 := R0.frozen 0
  have p1 := R0.c1
  have v1 := R0.frozen 1
  have p2 := R0.c2
  have v2 := R0.frozen 2
  have p3 := R0.c3
  have v3 := R0.frozen 3
  have p4 := R0.c4
  have v4 := R0.frozen 4
  have p5 := R0.c5
  have v5 := R0.frozen 5
  have p6 := R0.c6
  have v6 := R0.frozen 6
  have p7 := R0.c7
  have v7 := R0.frozen 7
  have p8 := R0.c8
  have v8 := R0.frozen 8
  have p9 := R0.c9
  have v9 := R0.frozen 9
  have p10 := R0.c10
  have v10 := R0.frozen 10
  have p11 := R0.c11
  have v11 := R0.frozen 11
  have p12 := R0.c12
  have v12 := R0.frozen 12
  simp only [jb0, sp0] at p0 p1 p2 p3 p4 p5 p6 p7 p8 p9 p10 p11 p12
  go_wp2
  have HBF := below_store (v0 := .int .i64 j.id) (v1 := .int .i64 j.spec.nodes) (v2 := .int .i64 j.spec.cores) (v3 := .int .i64 j.spec.gpus) (v4 := .string j.spec.tag) (v5 := .bool j.spec.whole) (v6 := .int .i64 j.spec.long) (v7 := .int .i64 j.spec.prio) (v8 := .slice A1 m c1) (v9 := .int .i64 s) (v10 := .int .i64 j.came) (v11 := .int .i64 j.frm) (v12 := .int .i64 j.to) (HB.out.setCell (p := ⟨w.heap.size + 1 + 1, 9, none⟩) (show w.heap.size ≤ w.heap.size + 1 + 1 by omega) (.int .i64 s)) (show w.heap.size ≤ w.heap.size + 1 by omega)
  have b1 := R0.store ⟨j.id, j.spec, j.needs, s, j.came, j.frm, j.to⟩ A1 m c1
  have r0 := b1.c0
  have r1 := b1.c1
  have r2 := b1.c2
  have r3 := b1.c3
  have r4 := b1.c4
  have r5 := b1.c5
  have r6 := b1.c6
  have r7 := b1.c7
  have r8 := b1.c8
  have r9 := b1.c9
  have r10 := b1.c10
  have r11 := b1.c11
  have r12 := b1.c12
  refine bodyPost_ret (v := .tuple #[.agg #[.int .i64 j.id, .int .i64 j.spec.nodes, .int .i64 j.spec.cores, .int .i64 j.spec.gpus, .string j.spec.tag, .bool j.spec.whole, .int .i64 j.spec.long, .int .i64 j.spec.prio, .slice A1 m c1, .int .i64 s, .int .i64 j.came, .int .i64 j.frm, .int .i64 j.to], .int .i64 0]) (by simp [results, Try.results42, go_sem, r0, r1, r2, r3, r4, r5, r6, r7, r8, r9, r10, r11, r12]) rfl ⟨⟨A1, m, c1, rfl, (((((((((((((((NN.out.set (k := 9) (v := .int .i64 s) HSZ.out).set (show w.heap.size + 1 < W.heap.size from Nat.lt_of_succ_lt HSZ.out)).set (show w.heap.size + 1 < W.heap.size from Nat.lt_of_succ_lt HSZ.out)).set (show w.heap.size + 1 < W.heap.size from Nat.lt_of_succ_lt HSZ.out)).set (show w.heap.size + 1 < W.heap.size from Nat.lt_of_succ_lt HSZ.out)).set (show w.heap.size + 1 < W.heap.size from Nat.lt_of_succ_lt HSZ.out)).set (show w.heap.size + 1 < W.heap.size from Nat.lt_of_succ_lt HSZ.out)).set (show w.heap.size + 1 < W.heap.size from Nat.lt_of_succ_lt HSZ.out)).set (show w.heap.size + 1 < W.heap.size from Nat.lt_of_succ_lt HSZ.out)).set (show w.heap.size + 1 < W.heap.size from Nat.lt_of_succ_lt HSZ.out)).set (show w.heap.size + 1 < W.heap.size from Nat.lt_of_succ_lt HSZ.out)).set (show w.heap.size + 1 < W.heap.size from Nat.lt_of_succ_lt HSZ.out)).set (show w.heap.size + 1 < W.heap.size from Nat.lt_of_succ_lt HSZ.out)).set (show w.heap.size + 1 < W.heap.size from Nat.lt_of_succ_lt HSZ.out))).job JW.out HML.out HI0.out HI1.out HI2.out, NN.out.fresh (Nat.le_of_lt (Nat.lt_of_succ_lt (Nat.lt_of_succ_lt HSZ.out)))⟩, HBF⟩

set_option maxRecDepth 100000 in
set_option maxHeartbeats 8000000 in
theorem do_9 (A : Option Addr) (m c : Nat) (j : Jb) (what now : Int) (w : World) (hj : JAsk w A m c j) (hm : m ≤ 1000) (hr : rightJ j = true) (h1 : ¬ what < 1) (h2 : ¬ 7 < what) (h3 : timeB now = true) (h4 : ¬ now < j.came) (h5 : ¬ now < j.frm) (s : Int) (hs : nextP j.state what = (s, true)) (h7 : s = 2) (h8 : overJ s = false) (hn : I64 now) (his : I64 s) :
    Calls Try.prog 42 #[.agg #[.int .i64 j.id, .int .i64 j.spec.nodes, .int .i64 j.spec.cores, .int .i64 j.spec.gpus, .string j.spec.tag, .bool j.spec.whole, .int .i64 j.spec.long, .int .i64 j.spec.prio, .slice A m c, .int .i64 j.state, .int .i64 j.came, .int .i64 j.frm, .int .i64 j.to], .int .i64 what, .int .i64 now] w (JPostO ⟨j.id, j.spec, j.needs, s, j.came, now, j.to⟩ 0 w) := by
  obtain ⟨W2, hW2⟩ : ∃ W, W = (w.alloc (jO j A m c)).alloc (jO jb0 none 0 0) := ⟨_, rfl⟩
  have hs2 : W2.heap.size = w.heap.size + 1 + 1 := by rw [hW2]; simp
  have bx2 : BoxJ W2 w.heap.size j A m c := by rw [hW2]; exact (boxJ_new w j A m c).next ((Below.refl _ _).alloc (Nat.le_refl _) _)
  have br2 : BoxJ W2 (w.heap.size + 1) jb0 none 0 0 := by
    have := boxJ_new (w.alloc (jO j A m c)) jb0 none 0 0
    rw [show (w.alloc (jO j A m c)).heap.size = w.heap.size + 1 by simp] at this
    rw [hW2]; exact this
  have hb2 : Below w.heap.size w W2 := by rw [hW2]; exact ((Below.refl _ _).alloc (Nat.le_refl _) _).alloc (by simp) _
  obtain ⟨W, hW⟩ : ∃ W, W = W2.alloc (jO j A m c) := ⟨_, rfl⟩
  have hb3 : Below W2.heap.size W2 W := by rw [hW]; exact (Below.refl _ _).alloc (Nat.le_refl _) _
  have BX : Hid (BoxJ W w.heap.size j A m c) := Lib.hid (bx2.next hb3)
  have BR : Hid (BoxJ W (w.heap.size + 1) jb0 none 0 0) := Lib.hid (br2.next hb3)
  have BO : Hid (BoxJ W (w.heap.size + 1 + 1) j A m c) := Lib.hid (by
    have := boxJ_new W2 j A m c
    rw [hs2] at this
    rw [hW]; exact this)
  have HB : Hid (Below w.heap.size w W) := Lib.hid (hb2.trans (hb3.mono hb2.size))
  have HSZ : Hid (w.heap.size + 1 + 1 < W.heap.size) := Lib.hid BO.out.lt
  have JW := Lib.hid hj
  have JA := Lib.hid (hj.next HB.out)
  have HM : Hid (m ≤ 1000) := Lib.hid hm
  have HML : Hid (m ≤ maxLen) := Lib.hid hj.few
  have q0 := bx2.c0
  have q1 := bx2.c1
  have q2 := bx2.c2
  have q3 := bx2.c3
  have q4 := bx2.c4
  have q5 := bx2.c5
  have q6 := bx2.c6
  have q7 := bx2.c7
  have q8 := bx2.c8
  have q9 := bx2.c9
  have q10 := bx2.c10
  have q11 := bx2.c11
  have q12 := bx2.c12
  have s8 := BX.out.c8
  rw [hW2] at hW
  rw [hW] at s8
  rw [hW2] at q0 q1 q2 q3 q4 q5 q6 q7 q8 q9 q10 q11 q12
  unfold jO at hW s8 q0 q1 q2 q3 q4 q5 q6 q7 q8 q9 q10 q11 q12
  simp only [jb0, sp0] at hW s8 q0 q1 q2 q3 q4 q5 q6 q7 q8 q9 q10 q11 q12
  clear hb2 hb3 bx2 br2 hs2 hW2 W2 hj hm
  have RJ := Lib.hid hr
  have d1 : decide (what < 1) = false := decide_eq_false h1
  have d2 : decide (7 < what) = false := decide_eq_false h2
  have TN := Lib.hid h3
  have d4 : decide (now < j.came) = false := decide_eq_false h4
  have d5 : decide (now < j.frm) = false := decide_eq_false h5
  have hw1 : 1 ≤ what := by omega
  have hw2 : what ≤ 7 := by omega
  have NX := Lib.hid hs
  have HI0 : Hid (I64 s) := Lib.hid his
  have HI1 : Hid (I64 now) := Lib.hid hn
  clear hn
  have HI2 : Hid (I64 j.to) := Lib.hid JW.out.int.2.2.2.2.1
  have d7 : (s == 2) = true := by rw [beq_iff_eq]; exact h7
  have OV := Lib.hid h8
  clear hr h1 h2 h3 h4 h5 hs his h7 h8
  go_enter Try.func42, Try.ntmps42
  go_wp2_with fail
  rw [← hW]
  clear hW
  refine (clone_own JA.out.reads JA.out.nil HM.out).mono ?_
  rintro e w1 ⟨⟨A1, c1, rfl, hno⟩, hb⟩
  have NN := Lib.hid hno
  clear hno
  have HBq := Lib.hid (HB.out.trans (hb.mono HB.out.size))
  clear HB
  have HB := HBq
  clear HBq
  have BXq := Lib.hid (BX.out.next hb)
  clear BX
  have BX := BXq
  clear BXq
  have BRq := Lib.hid (BR.out.next hb)
  clear BR
  have BR := BRq
  clear BRq
  have BOq := Lib.hid (BO.out.next hb)
  clear BO
  have BO := BOq
  clear BOq
  clear hb
  clear q0 q1 q2 q3 q4 q5 q6 q7 q8 q9 q10 q11 q12
  clear s8 JA
  have y8 := BO.out.frozen 8
  have o8 := BO.out.c8
  obtain ⟨V, hV⟩ : ∃ V, V = w1.setCell ⟨w.heap.size + 1 + 1, 8, none⟩ (.slice A1 m c1) := ⟨_, rfl⟩
  have BXq : Hid (BoxJ V w.heap.size j A m c) := Lib.hid (by rw [hV]; exact BX.out.other (by omega))
  have BRq : Hid (BoxJ V (w.heap.size + 1) jb0 none 0 0) := Lib.hid (by rw [hV]; exact BR.out.other (by omega))
  have BOq : Hid (BoxJ V (w.heap.size + 1 + 1) j A1 m c1) := Lib.hid (by rw [hV]; exact BO.out.set (by kernel_rfl))
  have NNq : Hid (NO W.heap.size V A1 m c1 j.needs) := Lib.hid (by rw [hV]; exact NN.out.set HSZ.out)
  have HBq : Hid (Below w.heap.size w V) := Lib.hid (by rw [hV]; exact HB.out.setCell (p := ⟨_, 8, none⟩) (show w.heap.size ≤ w.heap.size + 1 + 1 by omega) _)
  have q0 := BXq.out.c0
  have q1 := BXq.out.c1
  have q2 := BXq.out.c2
  have q3 := BXq.out.c3
  have q4 := BXq.out.c4
  have q5 := BXq.out.c5
  have q6 := BXq.out.c6
  have q7 := BXq.out.c7
  have q8 := BXq.out.c8
  have q9 := BXq.out.c9
  have q10 := BXq.out.c10
  have q11 := BXq.out.c11
  have q12 := BXq.out.c12
  rw [hV] at q0 q1 q2 q3 q4 q5 q6 q7 q8 q9 q10 q11 q12
  clear BX BR BO NN HB
  have BX := BXq
  have BR := BRq
  have BO := BOq
  have NN := NNq
  have HB := HBq
  clear BXq BRq BOq NNq HBq
  have JA := Lib.hid (JW.out.next HB.out)
  go_wp2_with fail
  rw [← hV]
  clear hV y8 o8
  refine (jobRight_b JA.out RJ.out).mono ?_
  rintro e w2 ⟨rfl, hb⟩
  have HBq := Lib.hid (HB.out.trans (hb.mono HB.out.size))
  clear HB
  have HB := HBq
  clear HBq
  have BXq := Lib.hid (BX.out.next hb)
  clear BX
  have BX := BXq
  clear BXq
  have BRq := Lib.hid (BR.out.next hb)
  clear BR
  have BR := BRq
  clear BRq
  have BOq := Lib.hid (BO.out.next hb)
  clear BO
  have BO := BOq
  clear BOq
  have NNq := Lib.hid (NN.out.next hb)
  clear NN
  have NN := NNq
  clear NNq
  clear hb
  clear q0 q1 q2 q3 q4 q5 q6 q7 q8 q9 q10 q11 q12
  have q0 := BX.out.c0
  have q1 := BX.out.c1
  have q2 := BX.out.c2
  have q3 := BX.out.c3
  have q4 := BX.out.c4
  have q5 := BX.out.c5
  have q6 := BX.out.c6
  have q7 := BX.out.c7
  have q8 := BX.out.c8
  have q9 := BX.out.c9
  have q10 := BX.out.c10
  have q11 := BX.out.c11
  have q12 := BX.out.c12
  clear JA
  go_wp2_with fail
  refine (whenRight_b now _ _ TN.out).mono ?_
  rintro e wz ⟨rfl, rfl⟩
  go_wp2_with fail
  refine (next_b hw1 hw2 NX.out).mono ?_
  rintro e wz ⟨rfl, rfl⟩
  have z0 := BO.out.frozen 9
  have zc0 := BO.out.c9
  have X0 := BO.out.set (j' := ⟨j.id, j.spec, j.needs, s, j.came, j.frm, j.to⟩) (A' := A1) (m' := m) (c' := c1) (k := 9) (v := .int .i64 s) (by kernel_rfl)
  have R0 := BR.out.other (g' := w.heap.size + 1 + 1) (k := 9) (v := .int .i64 s) (by omega)
  have z1 := X0.frozen 11
  have zc1 := X0.c11
  simp only at zc1
  have X1 := X0.set (j' := ⟨j.id, j.spec, j.needs, s, j.came, now, j.to⟩) (A' := A1) (m' := m) (c' := c1) (k := 11) (v := .int .i64 now) (by kernel_rfl)
  have R1 := R0.other (g' := w.heap.size + 1 + 1) (k := 11) (v := .int .i64 now) (by omega)
  go_wp2_with fail
  refine (over_b OV.out).mono ?_
  rintro e wz ⟨rfl, rfl⟩
  have s0 := X1.c0
  have s1 := X1.c1
  have s2 := X1.c2
  have s3 := X1.c3
  have s4 := X1.c4
  have s5 := X1.c5
  have s6 := X1.c6
  have s7 := X1.c7
  have s8 := X1.c8
  have s9 := X1.c9
  have s10 := X1.c10
  have s11 := X1.c11
  have s12 := X1.c12
  simp only at s0 s1 s2 s3 s4 s5 s6 s7 s8 s9 s10 s11 s12
  have p0 := R1.c0
  have v0 := R1.frozen 0
  have p1 := R1.c1
  have v1 := R1.frozen 1
  have p2 := R1.c2
  have v2 := R1.frozen 2
  have p3 := R1.c3
  have v3 := R1.frozen 3
  have p4 := R1.c4
  have v4 := R1.frozen 4
  have p5 := R1.c5
  have v5 := R1.frozen 5
  have p6 := R1.c6
  have v6 := R1.frozen 6
  have p7 := R1.c7
  have v7 := R1.frozen 7
  have p8 := R1.c8
  have v8 := R1.frozen 8
  have p9 := R1.c9
  have v9 := R1.frozen 9
  have p10 := R1.c10
  have v10 := R1.frozen 10
  have p11 := R1.c11
  have v11 := R1.frozen 11
  have p12 := R1.c12
  have v12 := R1.frozen 12
  simp only [jb0, sp0] at p0 p1 p2 p3 p4 p5 p6 p7 p8 p9 p10 p11 p12
  go_wp2
  have HBF := below_store (v0 := .int .i64 j.id) (v1 := .int .i64 j.spec.nodes) (v2 := .int .i64 j.spec.cores) (v3 := .int .i64 j.spec.gpus) (v4 := .string j.spec.tag) (v5 := .bool j.spec.whole) (v6 := .int .i64 j.spec.long) (v7 := .int .i64 j.spec.prio) (v8 := .slice A1 m c1) (v9 := .int .i64 s) (v10 := .int .i64 j.came) (v11 := .int .i64 now) (v12 := .int .i64 j.to) ((HB.out.setCell (p := ⟨w.heap.size + 1 + 1, 9, none⟩) (show w.heap.size ≤ w.heap.size + 1 + 1 by omega) (.int .i64 s)).setCell (p := ⟨w.heap.size + 1 + 1, 11, none⟩) (show w.heap.size ≤ w.heap.size + 1 + 1 by omega) (.int .i64 now)) (show w.heap.size ≤ w.heap.size + 1 by omega)
  have b1 := R1.store ⟨j.id, j.spec, j.needs, s, j.came, now, j.to⟩ A1 m c1
  have r0 := b1.c0
  have r1 := b1.c1
  have r2 := b1.c2
  have r3 := b1.c3
  have r4 := b1.c4
  have r5 := b1.c5
  have r6 := b1.c6
  have r7 := b1.c7
  have r8 := b1.c8
  have r9 := b1.c9
  have r10 := b1.c10
  have r11 := b1.c11
  have r12 := b1.c12
  refine bodyPost_ret (v := .tuple #[.agg #[.int .i64 j.id, .int .i64 j.spec.nodes, .int .i64 j.spec.cores, .int .i64 j.spec.gpus, .string j.spec.tag, .bool j.spec.whole, .int .i64 j.spec.long, .int .i64 j.spec.prio, .slice A1 m c1, .int .i64 s, .int .i64 j.came, .int .i64 now, .int .i64 j.to], .int .i64 0]) (by simp [results, Try.results42, go_sem, r0, r1, r2, r3, r4, r5, r6, r7, r8, r9, r10, r11, r12]) rfl ⟨⟨A1, m, c1, rfl, ((((((((((((((((NN.out.set (k := 9) (v := .int .i64 s) HSZ.out).set (k := 11) (v := .int .i64 now) HSZ.out).set (show w.heap.size + 1 < W.heap.size from Nat.lt_of_succ_lt HSZ.out)).set (show w.heap.size + 1 < W.heap.size from Nat.lt_of_succ_lt HSZ.out)).set (show w.heap.size + 1 < W.heap.size from Nat.lt_of_succ_lt HSZ.out)).set (show w.heap.size + 1 < W.heap.size from Nat.lt_of_succ_lt HSZ.out)).set (show w.heap.size + 1 < W.heap.size from Nat.lt_of_succ_lt HSZ.out)).set (show w.heap.size + 1 < W.heap.size from Nat.lt_of_succ_lt HSZ.out)).set (show w.heap.size + 1 < W.heap.size from Nat.lt_of_succ_lt HSZ.out)).set (show w.heap.size + 1 < W.heap.size from Nat.lt_of_succ_lt HSZ.out)).set (show w.heap.size + 1 < W.heap.size from Nat.lt_of_succ_lt HSZ.out)).set (show w.heap.size + 1 < W.heap.size from Nat.lt_of_succ_lt HSZ.out)).set (show w.heap.size + 1 < W.heap.size from Nat.lt_of_succ_lt HSZ.out)).set (show w.heap.size + 1 < W.heap.size from Nat.lt_of_succ_lt HSZ.out)).set (show w.heap.size + 1 < W.heap.size from Nat.lt_of_succ_lt HSZ.out))).job JW.out HML.out HI0.out HI1.out HI2.out, NN.out.fresh (Nat.le_of_lt (Nat.lt_of_succ_lt (Nat.lt_of_succ_lt HSZ.out)))⟩, HBF⟩

set_option maxRecDepth 100000 in
set_option maxHeartbeats 8000000 in
theorem do_10 (A : Option Addr) (m c : Nat) (j : Jb) (what now : Int) (w : World) (hj : JAsk w A m c j) (hm : m ≤ 1000) (hr : rightJ j = true) (h1 : ¬ what < 1) (h2 : ¬ 7 < what) (h3 : timeB now = true) (h4 : ¬ now < j.came) (h5 : ¬ now < j.frm) (s : Int) (hs : nextP j.state what = (s, true)) (h7 : ¬ s = 2) (h8 : overJ s = true) (hn : I64 now) (his : I64 s) :
    Calls Try.prog 42 #[.agg #[.int .i64 j.id, .int .i64 j.spec.nodes, .int .i64 j.spec.cores, .int .i64 j.spec.gpus, .string j.spec.tag, .bool j.spec.whole, .int .i64 j.spec.long, .int .i64 j.spec.prio, .slice A m c, .int .i64 j.state, .int .i64 j.came, .int .i64 j.frm, .int .i64 j.to], .int .i64 what, .int .i64 now] w (JPostO ⟨j.id, j.spec, j.needs, s, j.came, j.frm, now⟩ 0 w) := by
  obtain ⟨W2, hW2⟩ : ∃ W, W = (w.alloc (jO j A m c)).alloc (jO jb0 none 0 0) := ⟨_, rfl⟩
  have hs2 : W2.heap.size = w.heap.size + 1 + 1 := by rw [hW2]; simp
  have bx2 : BoxJ W2 w.heap.size j A m c := by rw [hW2]; exact (boxJ_new w j A m c).next ((Below.refl _ _).alloc (Nat.le_refl _) _)
  have br2 : BoxJ W2 (w.heap.size + 1) jb0 none 0 0 := by
    have := boxJ_new (w.alloc (jO j A m c)) jb0 none 0 0
    rw [show (w.alloc (jO j A m c)).heap.size = w.heap.size + 1 by simp] at this
    rw [hW2]; exact this
  have hb2 : Below w.heap.size w W2 := by rw [hW2]; exact ((Below.refl _ _).alloc (Nat.le_refl _) _).alloc (by simp) _
  obtain ⟨W, hW⟩ : ∃ W, W = W2.alloc (jO j A m c) := ⟨_, rfl⟩
  have hb3 : Below W2.heap.size W2 W := by rw [hW]; exact (Below.refl _ _).alloc (Nat.le_refl _) _
  have BX : Hid (BoxJ W w.heap.size j A m c) := Lib.hid (bx2.next hb3)
  have BR : Hid (BoxJ W (w.heap.size + 1) jb0 none 0 0) := Lib.hid (br2.next hb3)
  have BO : Hid (BoxJ W (w.heap.size + 1 + 1) j A m c) := Lib.hid (by
    have := boxJ_new W2 j A m c
    rw [hs2] at this
    rw [hW]; exact this)
  have HB : Hid (Below w.heap.size w W) := Lib.hid (hb2.trans (hb3.mono hb2.size))
  have HSZ : Hid (w.heap.size + 1 + 1 < W.heap.size) := Lib.hid BO.out.lt
  have JW := Lib.hid hj
  have JA := Lib.hid (hj.next HB.out)
  have HM : Hid (m ≤ 1000) := Lib.hid hm
  have HML : Hid (m ≤ maxLen) := Lib.hid hj.few
  have q0 := bx2.c0
  have q1 := bx2.c1
  have q2 := bx2.c2
  have q3 := bx2.c3
  have q4 := bx2.c4
  have q5 := bx2.c5
  have q6 := bx2.c6
  have q7 := bx2.c7
  have q8 := bx2.c8
  have q9 := bx2.c9
  have q10 := bx2.c10
  have q11 := bx2.c11
  have q12 := bx2.c12
  have s8 := BX.out.c8
  rw [hW2] at hW
  rw [hW] at s8
  rw [hW2] at q0 q1 q2 q3 q4 q5 q6 q7 q8 q9 q10 q11 q12
  unfold jO at hW s8 q0 q1 q2 q3 q4 q5 q6 q7 q8 q9 q10 q11 q12
  simp only [jb0, sp0] at hW s8 q0 q1 q2 q3 q4 q5 q6 q7 q8 q9 q10 q11 q12
  clear hb2 hb3 bx2 br2 hs2 hW2 W2 hj hm
  have RJ := Lib.hid hr
  have d1 : decide (what < 1) = false := decide_eq_false h1
  have d2 : decide (7 < what) = false := decide_eq_false h2
  have TN := Lib.hid h3
  have d4 : decide (now < j.came) = false := decide_eq_false h4
  have d5 : decide (now < j.frm) = false := decide_eq_false h5
  have hw1 : 1 ≤ what := by omega
  have hw2 : what ≤ 7 := by omega
  have NX := Lib.hid hs
  have HI0 : Hid (I64 s) := Lib.hid his
  have HI1 : Hid (I64 j.frm) := Lib.hid JW.out.int.2.2.2.1
  have HI2 : Hid (I64 now) := Lib.hid hn
  clear hn
  have d7 : (s == 2) = false := by rw [beq_eq_false_iff_ne]; exact h7
  have OV := Lib.hid h8
  clear hr h1 h2 h3 h4 h5 hs his h7 h8
  go_enter Try.func42, Try.ntmps42
  go_wp2_with fail
  rw [← hW]
  clear hW
  refine (clone_own JA.out.reads JA.out.nil HM.out).mono ?_
  rintro e w1 ⟨⟨A1, c1, rfl, hno⟩, hb⟩
  have NN := Lib.hid hno
  clear hno
  have HBq := Lib.hid (HB.out.trans (hb.mono HB.out.size))
  clear HB
  have HB := HBq
  clear HBq
  have BXq := Lib.hid (BX.out.next hb)
  clear BX
  have BX := BXq
  clear BXq
  have BRq := Lib.hid (BR.out.next hb)
  clear BR
  have BR := BRq
  clear BRq
  have BOq := Lib.hid (BO.out.next hb)
  clear BO
  have BO := BOq
  clear BOq
  clear hb
  clear q0 q1 q2 q3 q4 q5 q6 q7 q8 q9 q10 q11 q12
  clear s8 JA
  have y8 := BO.out.frozen 8
  have o8 := BO.out.c8
  obtain ⟨V, hV⟩ : ∃ V, V = w1.setCell ⟨w.heap.size + 1 + 1, 8, none⟩ (.slice A1 m c1) := ⟨_, rfl⟩
  have BXq : Hid (BoxJ V w.heap.size j A m c) := Lib.hid (by rw [hV]; exact BX.out.other (by omega))
  have BRq : Hid (BoxJ V (w.heap.size + 1) jb0 none 0 0) := Lib.hid (by rw [hV]; exact BR.out.other (by omega))
  have BOq : Hid (BoxJ V (w.heap.size + 1 + 1) j A1 m c1) := Lib.hid (by rw [hV]; exact BO.out.set (by kernel_rfl))
  have NNq : Hid (NO W.heap.size V A1 m c1 j.needs) := Lib.hid (by rw [hV]; exact NN.out.set HSZ.out)
  have HBq : Hid (Below w.heap.size w V) := Lib.hid (by rw [hV]; exact HB.out.setCell (p := ⟨_, 8, none⟩) (show w.heap.size ≤ w.heap.size + 1 + 1 by omega) _)
  have q0 := BXq.out.c0
  have q1 := BXq.out.c1
  have q2 := BXq.out.c2
  have q3 := BXq.out.c3
  have q4 := BXq.out.c4
  have q5 := BXq.out.c5
  have q6 := BXq.out.c6
  have q7 := BXq.out.c7
  have q8 := BXq.out.c8
  have q9 := BXq.out.c9
  have q10 := BXq.out.c10
  have q11 := BXq.out.c11
  have q12 := BXq.out.c12
  rw [hV] at q0 q1 q2 q3 q4 q5 q6 q7 q8 q9 q10 q11 q12
  clear BX BR BO NN HB
  have BX := BXq
  have BR := BRq
  have BO := BOq
  have NN := NNq
  have HB := HBq
  clear BXq BRq BOq NNq HBq
  have JA := Lib.hid (JW.out.next HB.out)
  go_wp2_with fail
  rw [← hV]
  clear hV y8 o8
  refine (jobRight_b JA.out RJ.out).mono ?_
  rintro e w2 ⟨rfl, hb⟩
  have HBq := Lib.hid (HB.out.trans (hb.mono HB.out.size))
  clear HB
  have HB := HBq
  clear HBq
  have BXq := Lib.hid (BX.out.next hb)
  clear BX
  have BX := BXq
  clear BXq
  have BRq := Lib.hid (BR.out.next hb)
  clear BR
  have BR := BRq
  clear BRq
  have BOq := Lib.hid (BO.out.next hb)
  clear BO
  have BO := BOq
  clear BOq
  have NNq := Lib.hid (NN.out.next hb)
  clear NN
  have NN := NNq
  clear NNq
  clear hb
  clear q0 q1 q2 q3 q4 q5 q6 q7 q8 q9 q10 q11 q12
  have q0 := BX.out.c0
  have q1 := BX.out.c1
  have q2 := BX.out.c2
  have q3 := BX.out.c3
  have q4 := BX.out.c4
  have q5 := BX.out.c5
  have q6 := BX.out.c6
  have q7 := BX.out.c7
  have q8 := BX.out.c8
  have q9 := BX.out.c9
  have q10 := BX.out.c10
  have q11 := BX.out.c11
  have q12 := BX.out.c12
  clear JA
  go_wp2_with fail
  refine (whenRight_b now _ _ TN.out).mono ?_
  rintro e wz ⟨rfl, rfl⟩
  go_wp2_with fail
  refine (next_b hw1 hw2 NX.out).mono ?_
  rintro e wz ⟨rfl, rfl⟩
  have z0 := BO.out.frozen 9
  have zc0 := BO.out.c9
  have X0 := BO.out.set (j' := ⟨j.id, j.spec, j.needs, s, j.came, j.frm, j.to⟩) (A' := A1) (m' := m) (c' := c1) (k := 9) (v := .int .i64 s) (by kernel_rfl)
  have R0 := BR.out.other (g' := w.heap.size + 1 + 1) (k := 9) (v := .int .i64 s) (by omega)
  have z1 := X0.frozen 12
  have zc1 := X0.c12
  simp only at zc1
  go_wp2_with fail
  refine (over_b OV.out).mono ?_
  rintro e wz ⟨rfl, rfl⟩
  have X1 := X0.set (j' := ⟨j.id, j.spec, j.needs, s, j.came, j.frm, now⟩) (A' := A1) (m' := m) (c' := c1) (k := 12) (v := .int .i64 now) (by kernel_rfl)
  have R1 := R0.other (g' := w.heap.size + 1 + 1) (k := 12) (v := .int .i64 now) (by omega)
  have s0 := X1.c0
  have s1 := X1.c1
  have s2 := X1.c2
  have s3 := X1.c3
  have s4 := X1.c4
  have s5 := X1.c5
  have s6 := X1.c6
  have s7 := X1.c7
  have s8 := X1.c8
  have s9 := X1.c9
  have s10 := X1.c10
  have s11 := X1.c11
  have s12 := X1.c12
  simp only at s0 s1 s2 s3 s4 s5 s6 s7 s8 s9 s10 s11 s12
  have p0 := R1.c0
  have v0 := R1.frozen 0
  have p1 := R1.c1
  have v1 := R1.frozen 1
  have p2 := R1.c2
  have v2 := R1.frozen 2
  have p3 := R1.c3
  have v3 := R1.frozen 3
  have p4 := R1.c4
  have v4 := R1.frozen 4
  have p5 := R1.c5
  have v5 := R1.frozen 5
  have p6 := R1.c6
  have v6 := R1.frozen 6
  have p7 := R1.c7
  have v7 := R1.frozen 7
  have p8 := R1.c8
  have v8 := R1.frozen 8
  have p9 := R1.c9
  have v9 := R1.frozen 9
  have p10 := R1.c10
  have v10 := R1.frozen 10
  have p11 := R1.c11
  have v11 := R1.frozen 11
  have p12 := R1.c12
  have v12 := R1.frozen 12
  simp only [jb0, sp0] at p0 p1 p2 p3 p4 p5 p6 p7 p8 p9 p10 p11 p12
  go_wp2
  have HBF := below_store (v0 := .int .i64 j.id) (v1 := .int .i64 j.spec.nodes) (v2 := .int .i64 j.spec.cores) (v3 := .int .i64 j.spec.gpus) (v4 := .string j.spec.tag) (v5 := .bool j.spec.whole) (v6 := .int .i64 j.spec.long) (v7 := .int .i64 j.spec.prio) (v8 := .slice A1 m c1) (v9 := .int .i64 s) (v10 := .int .i64 j.came) (v11 := .int .i64 j.frm) (v12 := .int .i64 now) ((HB.out.setCell (p := ⟨w.heap.size + 1 + 1, 9, none⟩) (show w.heap.size ≤ w.heap.size + 1 + 1 by omega) (.int .i64 s)).setCell (p := ⟨w.heap.size + 1 + 1, 12, none⟩) (show w.heap.size ≤ w.heap.size + 1 + 1 by omega) (.int .i64 now)) (show w.heap.size ≤ w.heap.size + 1 by omega)
  have b1 := R1.store ⟨j.id, j.spec, j.needs, s, j.came, j.frm, now⟩ A1 m c1
  have r0 := b1.c0
  have r1 := b1.c1
  have r2 := b1.c2
  have r3 := b1.c3
  have r4 := b1.c4
  have r5 := b1.c5
  have r6 := b1.c6
  have r7 := b1.c7
  have r8 := b1.c8
  have r9 := b1.c9
  have r10 := b1.c10
  have r11 := b1.c11
  have r12 := b1.c12
  refine bodyPost_ret (v := .tuple #[.agg #[.int .i64 j.id, .int .i64 j.spec.nodes, .int .i64 j.spec.cores, .int .i64 j.spec.gpus, .string j.spec.tag, .bool j.spec.whole, .int .i64 j.spec.long, .int .i64 j.spec.prio, .slice A1 m c1, .int .i64 s, .int .i64 j.came, .int .i64 j.frm, .int .i64 now], .int .i64 0]) (by simp [results, Try.results42, go_sem, r0, r1, r2, r3, r4, r5, r6, r7, r8, r9, r10, r11, r12]) rfl ⟨⟨A1, m, c1, rfl, ((((((((((((((((NN.out.set (k := 9) (v := .int .i64 s) HSZ.out).set (k := 12) (v := .int .i64 now) HSZ.out).set (show w.heap.size + 1 < W.heap.size from Nat.lt_of_succ_lt HSZ.out)).set (show w.heap.size + 1 < W.heap.size from Nat.lt_of_succ_lt HSZ.out)).set (show w.heap.size + 1 < W.heap.size from Nat.lt_of_succ_lt HSZ.out)).set (show w.heap.size + 1 < W.heap.size from Nat.lt_of_succ_lt HSZ.out)).set (show w.heap.size + 1 < W.heap.size from Nat.lt_of_succ_lt HSZ.out)).set (show w.heap.size + 1 < W.heap.size from Nat.lt_of_succ_lt HSZ.out)).set (show w.heap.size + 1 < W.heap.size from Nat.lt_of_succ_lt HSZ.out)).set (show w.heap.size + 1 < W.heap.size from Nat.lt_of_succ_lt HSZ.out)).set (show w.heap.size + 1 < W.heap.size from Nat.lt_of_succ_lt HSZ.out)).set (show w.heap.size + 1 < W.heap.size from Nat.lt_of_succ_lt HSZ.out)).set (show w.heap.size + 1 < W.heap.size from Nat.lt_of_succ_lt HSZ.out)).set (show w.heap.size + 1 < W.heap.size from Nat.lt_of_succ_lt HSZ.out)).set (show w.heap.size + 1 < W.heap.size from Nat.lt_of_succ_lt HSZ.out))).job JW.out HML.out HI0.out HI1.out HI2.out, NN.out.fresh (Nat.le_of_lt (Nat.lt_of_succ_lt (Nat.lt_of_succ_lt HSZ.out)))⟩, HBF⟩

theorem jobDoO_any (A : Option Addr) (m c : Nat) (j : Jb) (what now : Int) (w : World) (hj : JAsk w A m c j) (hm : m ≤ 1000) (hn : I64 now) : Calls Try.prog 42 #[.agg #[.int .i64 j.id, .int .i64 j.spec.nodes, .int .i64 j.spec.cores, .int .i64 j.spec.gpus, .string j.spec.tag, .bool j.spec.whole, .int .i64 j.spec.long, .int .i64 j.spec.prio, .slice A m c, .int .i64 j.state, .int .i64 j.came, .int .i64 j.frm, .int .i64 j.to], .int .i64 what, .int .i64 now] w (JPostO (doJ j what now) (doE j what now) w) := by
  have bad : ¬ AskOk j what now → doE j what now = 1 ∧ doJ j what now = j := fun h => by
    have h1 : doE j what now = 1 := if_neg h
    exact ⟨h1, doJ_no (by rw [h1]; decide)⟩
  cases hr : rightJ j with
  | false =>
    obtain ⟨e1, e2⟩ := bad fun h => of_decide_eq_false hr h.1
    rw [e1, e2]; exact do_1 A m c j what now w hj hm hr
  | true =>
  by_cases h1 : what < 1
  · obtain ⟨e1, e2⟩ := bad fun h => by have := h.2.1; omega
    rw [e1, e2]; exact do_2 A m c j what now w hj hm hr h1
  by_cases h2 : 7 < what
  · obtain ⟨e1, e2⟩ := bad fun h => by have := h.2.1; omega
    rw [e1, e2]; exact do_3 A m c j what now w hj hm hr h1 h2
  cases h3 : timeB now with
  | false =>
    obtain ⟨e1, e2⟩ := bad fun h => of_decide_eq_false h3 h.2.2.1
    rw [e1, e2]; exact do_4 A m c j what now w hj hm hr h1 h2 h3
  | true =>
  by_cases h4 : now < j.came
  · obtain ⟨e1, e2⟩ := bad fun h => by have := h.2.2.2.1; omega
    rw [e1, e2]; exact do_5 A m c j what now w hj hm hr h1 h2 h3 h4
  by_cases h5 : now < j.frm
  · obtain ⟨e1, e2⟩ := bad fun h => by have := h.2.2.2.2; omega
    rw [e1, e2]; exact do_6 A m c j what now w hj hm hr h1 h2 h3 h4 h5
  have hok : AskOk j what now := ⟨of_decide_eq_true hr, ⟨by omega, by omega⟩, of_decide_eq_true h3, by omega, by omega⟩
  have hst := hok.1.2.2.1.1
  have hnp := nextP_is hst.1 hst.2 (show 1 ≤ what by omega) (show what ≤ 7 by omega)
  by_cases h6 : nextZ j.state what < 0
  · have e1 : doE j what now = 8 := by unfold doE; rw [if_pos hok, if_pos h6]
    rw [e1, doJ_no (by rw [e1]; decide)]
    exact do_7 A m c j what now w hj hm hr h1 h2 h3 h4 h5 (nextP j.state what).1 (by rw [← hnp.1 h6])
  have e1 : doE j what now = 0 := by unfold doE; rw [if_pos hok, if_neg h6]
  have hrg := next_range j.state what
  have hx := hnp.2 (by omega)
  rw [e1, doJ_ok e1]
  have his : I64 (nextZ j.state what) := by unfold I64; omega
  by_cases h7 : nextZ j.state what = 2
  · rw [show intoJ j (nextZ j.state what) now = ⟨j.id, j.spec, j.needs, nextZ j.state what, j.came, now, j.to⟩ by unfold intoJ; rw [if_pos h7, if_neg (by omega)]]
    exact do_9 A m c j what now w hj hm hr h1 h2 h3 h4 h5 _ hx h7 (decide_eq_false (by omega)) hn his
  by_cases h8 : 2 < nextZ j.state what
  · rw [show intoJ j (nextZ j.state what) now = ⟨j.id, j.spec, j.needs, nextZ j.state what, j.came, j.frm, now⟩ by unfold intoJ; rw [if_neg h7, if_pos h8]]
    exact do_10 A m c j what now w hj hm hr h1 h2 h3 h4 h5 _ hx h7 (decide_eq_true ⟨by omega, by omega⟩) hn his
  · rw [show intoJ j (nextZ j.state what) now = ⟨j.id, j.spec, j.needs, nextZ j.state what, j.came, j.frm, j.to⟩ by unfold intoJ; rw [if_neg h7, if_neg h8]]
    exact do_8 A m c j what now w hj hm hr h1 h2 h3 h4 h5 _ hx h7 (decide_eq_false (by omega)) his

theorem jobDo_any (A : Option Addr) (m c : Nat) (j : Jb) (what now : Int) (w : World) (hj : JAsk w A m c j) (hm : m ≤ 1000) (hn : I64 now) : Calls Try.prog 42 #[.agg #[.int .i64 j.id, .int .i64 j.spec.nodes, .int .i64 j.spec.cores, .int .i64 j.spec.gpus, .string j.spec.tag, .bool j.spec.whole, .int .i64 j.spec.long, .int .i64 j.spec.prio, .slice A m c, .int .i64 j.state, .int .i64 j.came, .int .i64 j.frm, .int .i64 j.to], .int .i64 what, .int .i64 now] w (JPost (doJ j what now) (doE j what now) w) := (jobDoO_any A m c j what now w hj hm hn).mono fun _ _ h => h.post

end Go.Proofs.Ytimgdlddfnglaaa
