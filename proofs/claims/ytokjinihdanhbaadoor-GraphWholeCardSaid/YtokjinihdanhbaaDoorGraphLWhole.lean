/- The statement GraphWhole, as a walk over the contracts: of any list of things and two lists of numbers the call returns true. -/
import Derived.Test.YtokjinihdanhbaaDoorGraphAwake
import Derived.Test.YtokjinihdanhbaaDoorGraphLaws
import Derived.Test.YtokjinihdanhbaaDoorGraphArr
import Derived.Deep.QuietTactic
import Derived.BigQuiet
import Derived.IntWalk
namespace Go.Proofs.YtokjinihdanhbaaDoor
open Go.RowKit

theorem right_i64 {l : List Int} (h : rightB l = true) : ∀ x ∈ l, I64 x := fun x hx => by have := right_mem h x hx; unfold I64; omega
/-- three arrays of five, one behind the other, the third one the sum of the others -/
structure Three (W : World) (x0 x1 x2 x3 x4 y0 y1 y2 y3 y4 : Int) (wr : World) : Prop where
  bel : Below W.heap.size W wr
  c0 : wr.cell? ⟨W.heap.size, 0, none⟩ = some (.int .i64 x0) ∧ wr.cell? ⟨W.heap.size + 1, 0, none⟩ = some (.int .i64 y0) ∧ wr.cell? ⟨W.heap.size + 1 + 1, 0, none⟩ = some (.int .i64 (x0 + y0))
  c1 : wr.cell? ⟨W.heap.size, 1, none⟩ = some (.int .i64 x1) ∧ wr.cell? ⟨W.heap.size + 1, 1, none⟩ = some (.int .i64 y1) ∧ wr.cell? ⟨W.heap.size + 1 + 1, 1, none⟩ = some (.int .i64 (x1 + y1))
  c2 : wr.cell? ⟨W.heap.size, 2, none⟩ = some (.int .i64 x2) ∧ wr.cell? ⟨W.heap.size + 1, 2, none⟩ = some (.int .i64 y2) ∧ wr.cell? ⟨W.heap.size + 1 + 1, 2, none⟩ = some (.int .i64 (x2 + y2))
  c3 : wr.cell? ⟨W.heap.size, 3, none⟩ = some (.int .i64 x3) ∧ wr.cell? ⟨W.heap.size + 1, 3, none⟩ = some (.int .i64 y3) ∧ wr.cell? ⟨W.heap.size + 1 + 1, 3, none⟩ = some (.int .i64 (x3 + y3))
  c4 : wr.cell? ⟨W.heap.size, 4, none⟩ = some (.int .i64 x4) ∧ wr.cell? ⟨W.heap.size + 1, 4, none⟩ = some (.int .i64 y4) ∧ wr.cell? ⟨W.heap.size + 1 + 1, 4, none⟩ = some (.int .i64 (x4 + y4))
theorem Three.drewN {W wr : World} {x0 x1 x2 x3 x4 y0 y1 y2 y3 y4 : Int} (h : Three W x0 x1 x2 x3 x4 y0 y1 y2 y3 y4 wr) (q : Nat) : Three W x0 x1 x2 x3 x4 y0 y1 y2 y3 y4 (wr.drewN q) := ⟨h.bel.trans ((bel_drew wr q).mono h.bel.size), h.c0, h.c1, h.c2, h.c3, h.c4⟩
theorem three_arr (W : World) (x0 x1 x2 x3 x4 y0 y1 y2 y3 y4 : Int) : Three W x0 x1 x2 x3 x4 y0 y1 y2 y3 y4 (((W.alloc (.cells #[.int .i64 x0, .int .i64 x1, .int .i64 x2, .int .i64 x3, .int .i64 x4] 30)).alloc (.cells #[.int .i64 y0, .int .i64 y1, .int .i64 y2, .int .i64 y3, .int .i64 y4] 30)).alloc (.cells #[.int .i64 (x0 + y0), .int .i64 (x1 + y1), .int .i64 (x2 + y2), .int .i64 (x3 + y3), .int .i64 (x4 + y4)] 30)) := by
  have p1 := arr5_put W x0 x1 x2 x3 x4
  obtain ⟨W1, h1⟩ : ∃ W1, W1 = W.alloc (.cells #[.int .i64 x0, .int .i64 x1, .int .i64 x2, .int .i64 x3, .int .i64 x4] 30) := ⟨_, rfl⟩
  have s1 : W1.heap.size = W.heap.size + 1 := by rw [h1]; simp
  rw [← h1] at p1 ⊢
  have p2 := arr5_put W1 y0 y1 y2 y3 y4
  obtain ⟨W2, h2⟩ : ∃ W2, W2 = W1.alloc (.cells #[.int .i64 y0, .int .i64 y1, .int .i64 y2, .int .i64 y3, .int .i64 y4] 30) := ⟨_, rfl⟩
  have s2 : W2.heap.size = W.heap.size + 1 + 1 := by rw [h2]; simp [s1]
  rw [← h2] at p2 ⊢
  have p3 := arr5_put W2 (x0 + y0) (x1 + y1) (x2 + y2) (x3 + y3) (x4 + y4)
  have q2 := p2.next p3.bel
  have q1 := (p1.next p2.bel).next p3.bel
  exact ⟨q1.bel, ⟨q1.c0, by rw [← s1]; exact q2.c0, by rw [← s2]; exact p3.c0⟩, ⟨q1.c1, by rw [← s1]; exact q2.c1, by rw [← s2]; exact p3.c1⟩, ⟨q1.c2, by rw [← s1]; exact q2.c2, by rw [← s2]; exact p3.c2⟩, ⟨q1.c3, by rw [← s1]; exact q2.c3, by rw [← s2]; exact p3.c3⟩, ⟨q1.c4, by rw [← s1]; exact q2.c4, by rw [← s2]; exact p3.c4⟩⟩

set_option maxRecDepth 100000 in
set_option maxHeartbeats 4000000 in
theorem graphWhole_l0 (H : GraphOk) (A : Option Addr) (n c : Nat) (A1 : Option Addr) (n1 c1 : Nat) (A2 : Option Addr) (n2 c2 : Nat) (w : World) (h60 : 60 < n) (hn : n ≤ maxLen) (hG : Glob w) :
    Calls Tryd.prog 3 #[.slice A n c, .slice A1 n1 c1, .slice A2 n2 c2] w fun e w' => e = .returned (.bool true) ∧ Below w.heap.size w w' := by
  unfold maxLen at hn
  have HG := Lib.hid hG
  clear hG
  go_enter Tryd.func3, Tryd.ntmps3
  go_wp2_with fail
  refine (graphAwake_any H _ HG.out).mono ?_
  rintro e w1 ⟨rfl, hb1⟩
  have HB1 := Lib.hid hb1
  clear hb1
  go_wp2
  go_ret
  exact ⟨rfl, HB1.out⟩
set_option maxRecDepth 100000 in
set_option maxHeartbeats 4000000 in
theorem graphWhole_l1 (H : GraphOk) (A : Option Addr) (n c : Nat) (A1 : Option Addr) (n1 c1 : Nat) (A2 : Option Addr) (n2 c2 : Nat) (w : World) (h60 : ¬ 60 < n) (h1 : 60 < n1) (hn1 : n1 ≤ maxLen) (hG : Glob w) :
    Calls Tryd.prog 3 #[.slice A n c, .slice A1 n1 c1, .slice A2 n2 c2] w fun e w' => e = .returned (.bool true) ∧ Below w.heap.size w w' := by
  unfold maxLen at hn1
  have HG := Lib.hid hG
  have h60d : decide (60 < (n : Int)) = false := by simp; omega
  clear hG
  go_enter Tryd.func3, Tryd.ntmps3
  go_wp2_with fail
  refine (graphAwake_any H _ HG.out).mono ?_
  rintro e w1 ⟨rfl, hb1⟩
  have HB1 := Lib.hid hb1
  clear hb1
  go_wp2
  go_ret
  exact ⟨rfl, HB1.out⟩
set_option maxRecDepth 100000 in
set_option maxHeartbeats 4000000 in
theorem graphWhole_l2 (H : GraphOk) (A : Option Addr) (n c : Nat) (A1 : Option Addr) (n1 c1 : Nat) (A2 : Option Addr) (n2 c2 : Nat) (w : World) (h60 : ¬ 60 < n) (h1 : ¬ 60 < n1) (h2 : 60 < n2) (hn2 : n2 ≤ maxLen) (hG : Glob w) :
    Calls Tryd.prog 3 #[.slice A n c, .slice A1 n1 c1, .slice A2 n2 c2] w fun e w' => e = .returned (.bool true) ∧ Below w.heap.size w w' := by
  unfold maxLen at hn2
  have HG := Lib.hid hG
  have h60d : decide (60 < (n : Int)) = false := by simp; omega
  have h1d : decide (60 < (n1 : Int)) = false := by simp; omega
  clear hG
  go_enter Tryd.func3, Tryd.ntmps3
  go_wp2_with fail
  refine (graphAwake_any H _ HG.out).mono ?_
  rintro e w1 ⟨rfl, hb1⟩
  have HB1 := Lib.hid hb1
  clear hb1
  go_wp2
  go_ret
  exact ⟨rfl, HB1.out⟩
set_option maxRecDepth 100000 in
set_option maxHeartbeats 4000000 in
theorem graphWhole_none (H : GraphOk) (A : Option Addr) (n c : Nat) (A1 : Option Addr) (n1 c1 : Nat) (A2 : Option Addr) (n2 c2 : Nat) (g : Gr) (a b : List Int) (w : World) (hg : GAsk w A n c g) (h60 : n ≤ 60) (hl1 : LAsk w A1 n1 c1 a) (h160 : n1 ≤ 60) (hl2 : LAsk w A2 n2 c2 b) (h260 : n2 ≤ 60) (hG : Glob w) (hr : rightG g = false) :
    Calls Tryd.prog 3 #[.slice A n c, .slice A1 n1 c1, .slice A2 n2 c2] w fun e w' => e = .returned (.bool true) ∧ Below w.heap.size w w' := by
  have FG := Lib.hid hg
  have HG := Lib.hid hG
  have FA := Lib.hid hl1
  have FB := Lib.hid hl2
  have HB := Lib.hid (Below.refl w.heap.size w)
  have h60d : decide (60 < (n : Int)) = false := by simp; omega
  have h160d : decide (60 < (n1 : Int)) = false := by simp; omega
  have h260d : decide (60 < (n2 : Int)) = false := by simp; omega
  have HR := Lib.hid hr
  clear hg hl1 hl2 hG hr
  go_enter Tryd.func3, Tryd.ntmps3
  go_wp2_with fail
  refine (graphAwake_any H _ HG.out).mono ?_
  rintro e w1 ⟨rfl, hb1⟩
  have hBz := HB.out.size
  have HB2 := Lib.hid (HB.out.trans (hb1.mono hBz))
  clear HB hBz
  have HB := HB2
  clear HB2
  have HG2 := Lib.hid (HG.out.next hb1)
  clear HG
  have HG := HG2
  clear HG2
  have FG2 := Lib.hid (FG.out.next hb1)
  clear FG
  have FG := FG2
  clear FG2
  have FA2 := Lib.hid (FA.out.next hb1)
  clear FA
  have FA := FA2
  clear FA2
  have FB2 := Lib.hid (FB.out.next hb1)
  clear FB
  have FB := FB2
  clear FB2
  clear hb1
  go_wp2_with fail
  refine (calls_bool (H.right _ _ _ _ _ FG.out HG.out) HR.out).mono ?_
  rintro e w2 ⟨rfl, hb2⟩
  have hBz := HB.out.size
  have HB2 := Lib.hid (HB.out.trans (hb2.mono hBz))
  clear HB hBz
  have HB := HB2
  clear HB2
  have HG2 := Lib.hid (HG.out.next hb2)
  clear HG
  have HG := HG2
  clear HG2
  have FG2 := Lib.hid (FG.out.next hb2)
  clear FG
  have FG := FG2
  clear FG2
  have FA2 := Lib.hid (FA.out.next hb2)
  clear FA
  have FA := FA2
  clear FA2
  have FB2 := Lib.hid (FB.out.next hb2)
  clear FB
  have FB := FB2
  clear FB2
  clear hb2
  go_wp2
  go_ret
  exact ⟨rfl, HB.out⟩

set_option maxRecDepth 100000 in
set_option maxHeartbeats 4000000 in
theorem graphWhole_bad (H : GraphOk) (A : Option Addr) (n c : Nat) (A1 : Option Addr) (n1 c1 : Nat) (A2 : Option Addr) (n2 c2 : Nat) (g : Gr) (a b : List Int) (w : World) (hg : GAsk w A n c g) (h60 : n ≤ 60) (hl1 : LAsk w A1 n1 c1 a) (h160 : n1 ≤ 60) (hl2 : LAsk w A2 n2 c2 b) (h260 : n2 ≤ 60) (hG : Glob w) (hr : rightG g = true) (hw : wholeL g a = []) (ha : rightB a = false) :
    Calls Tryd.prog 3 #[.slice A n c, .slice A1 n1 c1, .slice A2 n2 c2] w fun e w' => e = .returned (.bool true) ∧ Below w.heap.size w w' := by
  have FG := Lib.hid hg
  have HG := Lib.hid hG
  have FA := Lib.hid hl1
  have FB := Lib.hid hl2
  have HB := Lib.hid (Below.refl w.heap.size w)
  have h60d : decide (60 < (n : Int)) = false := by simp; omega
  have h160d : decide (60 < (n1 : Int)) = false := by simp; omega
  have h260d : decide (60 < (n2 : Int)) = false := by simp; omega
  have HR := Lib.hid hr
  have HW := Lib.hid hw
  have HA := Lib.hid ha
  clear hg hl1 hl2 hG hr hw ha
  go_enter Tryd.func3, Tryd.ntmps3
  go_wp2_with fail
  refine (graphAwake_any H _ HG.out).mono ?_
  rintro e w1 ⟨rfl, hb1⟩
  have hBz := HB.out.size
  have HB2 := Lib.hid (HB.out.trans (hb1.mono hBz))
  clear HB hBz
  have HB := HB2
  clear HB2
  have HG2 := Lib.hid (HG.out.next hb1)
  clear HG
  have HG := HG2
  clear HG2
  have FG2 := Lib.hid (FG.out.next hb1)
  clear FG
  have FG := FG2
  clear FG2
  have FA2 := Lib.hid (FA.out.next hb1)
  clear FA
  have FA := FA2
  clear FA2
  have FB2 := Lib.hid (FB.out.next hb1)
  clear FB
  have FB := FB2
  clear FB2
  clear hb1
  go_wp2_with fail
  refine (calls_bool (H.right _ _ _ _ _ FG.out HG.out) HR.out).mono ?_
  rintro e w2 ⟨rfl, hb2⟩
  have hBz := HB.out.size
  have HB2 := Lib.hid (HB.out.trans (hb2.mono hBz))
  clear HB hBz
  have HB := HB2
  clear HB2
  have HG2 := Lib.hid (HG.out.next hb2)
  clear HG
  have HG := HG2
  clear HG2
  have FG2 := Lib.hid (FG.out.next hb2)
  clear FG
  have FG := FG2
  clear FG2
  have FA2 := Lib.hid (FA.out.next hb2)
  clear FA
  have FA := FA2
  clear FA2
  have FB2 := Lib.hid (FB.out.next hb2)
  clear FB
  have FB := FB2
  clear FB2
  clear hb2
  go_wp2_with fail
  refine (calls_ipost (H.whole _ _ _ _ _ _ _ _ _ FG.out FA.out HG.out) HW.out).mono ?_
  rintro e w3 ⟨⟨A3, c3, rfl, hr3, hnil3, hc3⟩, hb3⟩
  have hBz := HB.out.size
  have HB2 := Lib.hid (HB.out.trans (hb3.mono hBz))
  clear HB hBz
  have HB := HB2
  clear HB2
  have HG2 := Lib.hid (HG.out.next hb3)
  clear HG
  have HG := HG2
  clear HG2
  have FG2 := Lib.hid (FG.out.next hb3)
  clear FG
  have FG := FG2
  clear FG2
  have FA2 := Lib.hid (FA.out.next hb3)
  clear FA
  have FA := FA2
  clear FA2
  have FB2 := Lib.hid (FB.out.next hb3)
  clear FB
  have FB := FB2
  clear FB2
  clear hb3
  have F1 := Lib.hid hr3
  have F1c := Lib.hid hc3
  have F1z := Lib.hid hnil3
  clear hr3 hc3 hnil3
  go_wp2_with fail
  refine (s_isSet FA.out.reads (ml300 FA.out.few) HA.out).mono ?_
  rintro e w4 ⟨rfl, hb4⟩
  have hBz := HB.out.size
  have HB2 := Lib.hid (HB.out.trans (hb4.mono hBz))
  clear HB hBz
  have HB := HB2
  clear HB2
  have HG2 := Lib.hid (HG.out.next hb4)
  clear HG
  have HG := HG2
  clear HG2
  have FG2 := Lib.hid (FG.out.next hb4)
  clear FG
  have FG := FG2
  clear FG2
  have FA2 := Lib.hid (FA.out.next hb4)
  clear FA
  have FA := FA2
  clear FA2
  have FB2 := Lib.hid (FB.out.next hb4)
  clear FB
  have FB := FB2
  clear FB2
  have F12 := Lib.hid (F1.out.next hb4)
  clear F1
  have F1 := F12
  clear F12
  clear hb4
  go_wp2
  go_ret
  exact ⟨rfl, HB.out⟩

set_option maxRecDepth 100000 in
set_option maxHeartbeats 4000000 in
theorem graphWhole_far (H : GraphOk) (A : Option Addr) (n c : Nat) (A1 : Option Addr) (n1 c1 : Nat) (A2 : Option Addr) (n2 c2 : Nat) (g : Gr) (a b : List Int) (w : World) (hg : GAsk w A n c g) (h60 : n ≤ 60) (hl1 : LAsk w A1 n1 c1 a) (h160 : n1 ≤ 60) (hl2 : LAsk w A2 n2 c2 b) (h260 : n2 ≤ 60) (hG : Glob w) (hr : rightG g = true) (hw : wholeL g a = []) (ha : rightB a = true) (hp : 0 < n1) (y : Int) (hy : a.getD (n1 - 1) 0 = y) (hyn : (n : Int) ≤ y) :
    Calls Tryd.prog 3 #[.slice A n c, .slice A1 n1 c1, .slice A2 n2 c2] w fun e w' => e = .returned (.bool true) ∧ Below w.heap.size w w' := by
  have FG := Lib.hid hg
  have HG := Lib.hid hG
  have FA := Lib.hid hl1
  have FB := Lib.hid hl2
  have HB := Lib.hid (Below.refl w.heap.size w)
  have h60d : decide (60 < (n : Int)) = false := by simp; omega
  have h160d : decide (60 < (n1 : Int)) = false := by simp; omega
  have h260d : decide (60 < (n2 : Int)) = false := by simp; omega
  have HR := Lib.hid hr
  have HW := Lib.hid hw
  have HA := Lib.hid ha
  have HY := Lib.hid hy
  have hpd : decide (0 < n1) = true := by simp; omega
  have hix : ((n1 : Int) - 1).toNat = n1 - 1 := by omega
  clear hg hl1 hl2 hG hr hw ha hy
  go_enter Tryd.func3, Tryd.ntmps3
  go_wp2_with fail
  refine (graphAwake_any H _ HG.out).mono ?_
  rintro e w1 ⟨rfl, hb1⟩
  have hBz := HB.out.size
  have HB2 := Lib.hid (HB.out.trans (hb1.mono hBz))
  clear HB hBz
  have HB := HB2
  clear HB2
  have HG2 := Lib.hid (HG.out.next hb1)
  clear HG
  have HG := HG2
  clear HG2
  have FG2 := Lib.hid (FG.out.next hb1)
  clear FG
  have FG := FG2
  clear FG2
  have FA2 := Lib.hid (FA.out.next hb1)
  clear FA
  have FA := FA2
  clear FA2
  have FB2 := Lib.hid (FB.out.next hb1)
  clear FB
  have FB := FB2
  clear FB2
  clear hb1
  go_wp2_with fail
  refine (calls_bool (H.right _ _ _ _ _ FG.out HG.out) HR.out).mono ?_
  rintro e w2 ⟨rfl, hb2⟩
  have hBz := HB.out.size
  have HB2 := Lib.hid (HB.out.trans (hb2.mono hBz))
  clear HB hBz
  have HB := HB2
  clear HB2
  have HG2 := Lib.hid (HG.out.next hb2)
  clear HG
  have HG := HG2
  clear HG2
  have FG2 := Lib.hid (FG.out.next hb2)
  clear FG
  have FG := FG2
  clear FG2
  have FA2 := Lib.hid (FA.out.next hb2)
  clear FA
  have FA := FA2
  clear FA2
  have FB2 := Lib.hid (FB.out.next hb2)
  clear FB
  have FB := FB2
  clear FB2
  clear hb2
  go_wp2_with fail
  refine (calls_ipost (H.whole _ _ _ _ _ _ _ _ _ FG.out FA.out HG.out) HW.out).mono ?_
  rintro e w3 ⟨⟨A3, c3, rfl, hr3, hnil3, hc3⟩, hb3⟩
  have hBz := HB.out.size
  have HB2 := Lib.hid (HB.out.trans (hb3.mono hBz))
  clear HB hBz
  have HB := HB2
  clear HB2
  have HG2 := Lib.hid (HG.out.next hb3)
  clear HG
  have HG := HG2
  clear HG2
  have FG2 := Lib.hid (FG.out.next hb3)
  clear FG
  have FG := FG2
  clear FG2
  have FA2 := Lib.hid (FA.out.next hb3)
  clear FA
  have FA := FA2
  clear FA2
  have FB2 := Lib.hid (FB.out.next hb3)
  clear FB
  have FB := FB2
  clear FB2
  clear hb3
  have F1 := Lib.hid hr3
  have F1c := Lib.hid hc3
  have F1z := Lib.hid hnil3
  clear hr3 hc3 hnil3
  go_wp2_with fail
  refine (s_isSet FA.out.reads (ml300 FA.out.few) HA.out).mono ?_
  rintro e w4 ⟨rfl, hb4⟩
  have hBz := HB.out.size
  have HB2 := Lib.hid (HB.out.trans (hb4.mono hBz))
  clear HB hBz
  have HB := HB2
  clear HB2
  have HG2 := Lib.hid (HG.out.next hb4)
  clear HG
  have HG := HG2
  clear HG2
  have FG2 := Lib.hid (FG.out.next hb4)
  clear FG
  have FG := FG2
  clear FG2
  have FA2 := Lib.hid (FA.out.next hb4)
  clear FA
  have FA := FA2
  clear FA2
  have FB2 := Lib.hid (FB.out.next hb4)
  clear FB
  have FB := FB2
  clear FB2
  have F12 := Lib.hid (F1.out.next hb4)
  clear F1
  have F1 := F12
  clear F12
  clear hb4
  obtain ⟨ba, oa, ea, _, hca⟩ := FA.out.reads.one (k := n1 - 1) (by omega)
  subst ea
  rw [HY.out] at hca
  go_wp2
  go_ret
  exact ⟨rfl, HB.out⟩

set_option maxRecDepth 100000 in
set_option maxHeartbeats 4000000 in
theorem graphWhole_noe (H : GraphOk) (A : Option Addr) (n c : Nat) (A1 : Option Addr) (n1 c1 : Nat) (A2 : Option Addr) (n2 c2 : Nat) (g : Gr) (a b : List Int) (w : World) (hg : GAsk w A n c g) (h60 : n ≤ 60) (hl1 : LAsk w A1 n1 c1 a) (_h160 : n1 ≤ 60) (hl2 : LAsk w A2 n2 c2 b) (h260 : n2 ≤ 60) (hG : Glob w) (hr : rightG g = true) (ha : rightB a = true) (W : List Int) (hw : wholeL g a = W) (hwl : W.length ≤ 256) (hwi : ∀ x ∈ W, I64 x) (hpw : partB a W = true) (hww : wholeL g W = W) (hz : hasB W 0 = false) (hp : n1 = 0) (hb : rightB b = false) (hk : kVal g b = .agg #[.int .i64 0, .int .i64 0, .int .i64 0, .int .i64 0, .int .i64 0]) :
    Calls Tryd.prog 3 #[.slice A n c, .slice A1 n1 c1, .slice A2 n2 c2] w fun e w' => e = .returned (.bool true) ∧ Below w.heap.size w w' := by
  have FG := Lib.hid hg
  have HG := Lib.hid hG
  have FA := Lib.hid hl1
  have FB := Lib.hid hl2
  have HB := Lib.hid (Below.refl w.heap.size w)
  have h60d : decide (60 < (n : Int)) = false := by simp; omega
  have h160d : decide (60 < (n1 : Int)) = false := by simp; omega
  have h260d : decide (60 < (n2 : Int)) = false := by simp; omega
  have HR := Lib.hid hr
  have HA := Lib.hid ha
  have HW := Lib.hid hw
  have HWI := Lib.hid hwi
  have HP := Lib.hid hpw
  have HWW := Lib.hid hww
  have HZ := Lib.hid hz
  have hpd : decide (0 < n1) = false := by simp; omega
  have HBS := Lib.hid hb
  have HK := Lib.hid hk
  clear hg hl1 hl2 hG hr ha hw hwi hpw hww hz hp hb hk
  go_enter Tryd.func3, Tryd.ntmps3
  go_wp2_with fail
  refine (graphAwake_any H _ HG.out).mono ?_
  rintro e w1 ⟨rfl, hb1⟩
  have hBz := HB.out.size
  have HB2 := Lib.hid (HB.out.trans (hb1.mono hBz))
  clear HB hBz
  have HB := HB2
  clear HB2
  have HG2 := Lib.hid (HG.out.next hb1)
  clear HG
  have HG := HG2
  clear HG2
  have FG2 := Lib.hid (FG.out.next hb1)
  clear FG
  have FG := FG2
  clear FG2
  have FA2 := Lib.hid (FA.out.next hb1)
  clear FA
  have FA := FA2
  clear FA2
  have FB2 := Lib.hid (FB.out.next hb1)
  clear FB
  have FB := FB2
  clear FB2
  clear hb1
  go_wp2_with fail
  refine (calls_bool (H.right _ _ _ _ _ FG.out HG.out) HR.out).mono ?_
  rintro e w2 ⟨rfl, hb2⟩
  have hBz := HB.out.size
  have HB2 := Lib.hid (HB.out.trans (hb2.mono hBz))
  clear HB hBz
  have HB := HB2
  clear HB2
  have HG2 := Lib.hid (HG.out.next hb2)
  clear HG
  have HG := HG2
  clear HG2
  have FG2 := Lib.hid (FG.out.next hb2)
  clear FG
  have FG := FG2
  clear FG2
  have FA2 := Lib.hid (FA.out.next hb2)
  clear FA
  have FA := FA2
  clear FA2
  have FB2 := Lib.hid (FB.out.next hb2)
  clear FB
  have FB := FB2
  clear FB2
  clear hb2
  go_wp2_with fail
  refine (calls_ipost (H.whole _ _ _ _ _ _ _ _ _ FG.out FA.out HG.out) HW.out).mono ?_
  rintro e w3 ⟨⟨A3, c3, rfl, hr3, hnil3, hc3⟩, hb3⟩
  have hBz := HB.out.size
  have HB2 := Lib.hid (HB.out.trans (hb3.mono hBz))
  clear HB hBz
  have HB := HB2
  clear HB2
  have HG2 := Lib.hid (HG.out.next hb3)
  clear HG
  have HG := HG2
  clear HG2
  have FG2 := Lib.hid (FG.out.next hb3)
  clear FG
  have FG := FG2
  clear FG2
  have FA2 := Lib.hid (FA.out.next hb3)
  clear FA
  have FA := FA2
  clear FA2
  have FB2 := Lib.hid (FB.out.next hb3)
  clear FB
  have FB := FB2
  clear FB2
  clear hb3
  have F1 := Lib.hid hr3
  have F1c := Lib.hid hc3
  have F1z := Lib.hid hnil3
  clear hr3 hc3 hnil3
  have F1L := Lib.hid (LAsk.mk F1.out F1z.out F1c.out (by omega) HWI.out)
  clear F1c F1z
  clear F1
  go_wp2_with fail
  refine (s_isSet FA.out.reads (ml300 FA.out.few) HA.out).mono ?_
  rintro e w4 ⟨rfl, hb4⟩
  have hBz := HB.out.size
  have HB2 := Lib.hid (HB.out.trans (hb4.mono hBz))
  clear HB hBz
  have HB := HB2
  clear HB2
  have HG2 := Lib.hid (HG.out.next hb4)
  clear HG
  have HG := HG2
  clear HG2
  have FG2 := Lib.hid (FG.out.next hb4)
  clear FG
  have FG := FG2
  clear FG2
  have FA2 := Lib.hid (FA.out.next hb4)
  clear FA
  have FA := FA2
  clear FA2
  have FB2 := Lib.hid (FB.out.next hb4)
  clear FB
  have FB := FB2
  clear FB2
  have F1L2 := Lib.hid (F1L.out.next hb4)
  clear F1L
  have F1L := F1L2
  clear F1L2
  clear hb4
  go_wp2_with fail
  refine (s_part FA.out.reads F1L.out.reads (ml300 FA.out.few) (ml300 F1L.out.few) HP.out).mono ?_
  rintro e w5 ⟨rfl, hb5⟩
  have hBz := HB.out.size
  have HB2 := Lib.hid (HB.out.trans (hb5.mono hBz))
  clear HB hBz
  have HB := HB2
  clear HB2
  have HG2 := Lib.hid (HG.out.next hb5)
  clear HG
  have HG := HG2
  clear HG2
  have FG2 := Lib.hid (FG.out.next hb5)
  clear FG
  have FG := FG2
  clear FG2
  have FA2 := Lib.hid (FA.out.next hb5)
  clear FA
  have FA := FA2
  clear FA2
  have FB2 := Lib.hid (FB.out.next hb5)
  clear FB
  have FB := FB2
  clear FB2
  have F1L2 := Lib.hid (F1L.out.next hb5)
  clear F1L
  have F1L := F1L2
  clear F1L2
  clear hb5
  go_wp2_with fail
  refine (calls_ipost (H.whole _ _ _ _ _ _ _ _ _ FG.out F1L.out HG.out) HWW.out).mono ?_
  rintro e w6 ⟨⟨A6, c6, rfl, hr6, hnil6, hc6⟩, hb6⟩
  have hBz := HB.out.size
  have HB2 := Lib.hid (HB.out.trans (hb6.mono hBz))
  clear HB hBz
  have HB := HB2
  clear HB2
  have HG2 := Lib.hid (HG.out.next hb6)
  clear HG
  have HG := HG2
  clear HG2
  have FG2 := Lib.hid (FG.out.next hb6)
  clear FG
  have FG := FG2
  clear FG2
  have FA2 := Lib.hid (FA.out.next hb6)
  clear FA
  have FA := FA2
  clear FA2
  have FB2 := Lib.hid (FB.out.next hb6)
  clear FB
  have FB := FB2
  clear FB2
  have F1L2 := Lib.hid (F1L.out.next hb6)
  clear F1L
  have F1L := F1L2
  clear F1L2
  clear hb6
  have F2 := Lib.hid hr6
  have F2c := Lib.hid hc6
  have F2z := Lib.hid hnil6
  clear hr6 hc6 hnil6
  go_wp2_with fail
  refine (ri_same F2.out F1L.out.reads (ml300 F1L.out.few) (ml300 F1L.out.few) (same_self _)).mono ?_
  rintro e w7 ⟨rfl, hb7⟩
  have hBz := HB.out.size
  have HB2 := Lib.hid (HB.out.trans (hb7.mono hBz))
  clear HB hBz
  have HB := HB2
  clear HB2
  have HG2 := Lib.hid (HG.out.next hb7)
  clear HG
  have HG := HG2
  clear HG2
  have FG2 := Lib.hid (FG.out.next hb7)
  clear FG
  have FG := FG2
  clear FG2
  have FA2 := Lib.hid (FA.out.next hb7)
  clear FA
  have FA := FA2
  clear FA2
  have FB2 := Lib.hid (FB.out.next hb7)
  clear FB
  have FB := FB2
  clear FB2
  have F1L2 := Lib.hid (F1L.out.next hb7)
  clear F1L
  have F1L := F1L2
  clear F1L2
  have F22 := Lib.hid (F2.out.next hb7)
  clear F2
  have F2 := F22
  clear F22
  clear hb7
  clear F2
  clear F2c F2z
  go_wp2_with fail
  refine (s_has F1L.out.reads (ml300 F1L.out.few) HZ.out).mono ?_
  rintro e w8 ⟨rfl, hb8⟩
  have hBz := HB.out.size
  have HB2 := Lib.hid (HB.out.trans (hb8.mono hBz))
  clear HB hBz
  have HB := HB2
  clear HB2
  have HG2 := Lib.hid (HG.out.next hb8)
  clear HG
  have HG := HG2
  clear HG2
  have FG2 := Lib.hid (FG.out.next hb8)
  clear FG
  have FG := FG2
  clear FG2
  have FA2 := Lib.hid (FA.out.next hb8)
  clear FA
  have FA := FA2
  clear FA2
  have FB2 := Lib.hid (FB.out.next hb8)
  clear FB
  have FB := FB2
  clear FB2
  have F1L2 := Lib.hid (F1L.out.next hb8)
  clear F1L
  have F1L := F1L2
  clear F1L2
  clear hb8
  clear F1L
  go_wp2_with fail
  refine (s_isSet FB.out.reads (ml300 FB.out.few) HBS.out).mono ?_
  rintro e w9 ⟨rfl, hb9⟩
  have hBz := HB.out.size
  have HB2 := Lib.hid (HB.out.trans (hb9.mono hBz))
  clear HB hBz
  have HB := HB2
  clear HB2
  have HG2 := Lib.hid (HG.out.next hb9)
  clear HG
  have HG := HG2
  clear HG2
  have FG2 := Lib.hid (FG.out.next hb9)
  clear FG
  have FG := FG2
  clear FG2
  have FA2 := Lib.hid (FA.out.next hb9)
  clear FA
  have FA := FA2
  clear FA2
  have FB2 := Lib.hid (FB.out.next hb9)
  clear FB
  have FB := FB2
  clear FB2
  clear hb9
  go_wp2_with fail
  refine (calls_kinds (H.kinds _ _ _ _ _ _ _ _ _ FG.out FB.out HG.out) HK.out).mono ?_
  rintro e w10 ⟨rfl, hb10⟩
  have hBz := HB.out.size
  have HB2 := Lib.hid (HB.out.trans (hb10.mono hBz))
  clear HB hBz
  have HB := HB2
  clear HB2
  have HG2 := Lib.hid (HG.out.next hb10)
  clear HG
  have HG := HG2
  clear HG2
  have FG2 := Lib.hid (FG.out.next hb10)
  clear FG
  have FG := FG2
  clear FG2
  have FA2 := Lib.hid (FA.out.next hb10)
  clear FA
  have FA := FA2
  clear FA2
  have FB2 := Lib.hid (FB.out.next hb10)
  clear FB
  have FB := FB2
  clear FB2
  clear hb10
  have heq := run_eq5 0 0 0 0 0
  go_wp2
  go_ret
  exact ⟨rfl, HB.out⟩

set_option maxRecDepth 100000 in
set_option maxHeartbeats 4000000 in
theorem graphWhole_ise (H : GraphOk) (A : Option Addr) (n c : Nat) (A1 : Option Addr) (n1 c1 : Nat) (A2 : Option Addr) (n2 c2 : Nat) (g : Gr) (a b : List Int) (w : World) (hg : GAsk w A n c g) (h60 : n ≤ 60) (hl1 : LAsk w A1 n1 c1 a) (_h160 : n1 ≤ 60) (hl2 : LAsk w A2 n2 c2 b) (h260 : n2 ≤ 60) (hG : Glob w) (hr : rightG g = true) (ha : rightB a = true) (W : List Int) (hw : wholeL g a = W) (hwl : W.length ≤ 256) (hwi : ∀ x ∈ W, I64 x) (hpw : partB a W = true) (hww : wholeL g W = W) (hz : hasB W 0 = false) (hp : n1 = 0) (hb : rightB b = true) (x0 x1 x2 x3 x4 y0 y1 y2 y3 y4 : Int) (hk1 : kVal g (meetL a b) = .agg #[.int .i64 x0, .int .i64 x1, .int .i64 x2, .int .i64 x3, .int .i64 x4]) (hk2 : kVal g (lessL a b) = .agg #[.int .i64 y0, .int .i64 y1, .int .i64 y2, .int .i64 y3, .int .i64 y4]) (hk3 : kVal g a = .agg #[.int .i64 (x0 + y0), .int .i64 (x1 + y1), .int .i64 (x2 + y2), .int .i64 (x3 + y3), .int .i64 (x4 + y4)]) (hbd : (0 ≤ x0 ∧ x0 ≤ 256 ∧ 0 ≤ x1 ∧ x1 ≤ 256 ∧ 0 ≤ x2 ∧ x2 ≤ 256 ∧ 0 ≤ x3 ∧ x3 ≤ 256 ∧ 0 ≤ x4 ∧ x4 ≤ 256) ∧ 0 ≤ y0 ∧ y0 ≤ 256 ∧ 0 ≤ y1 ∧ y1 ≤ 256 ∧ 0 ≤ y2 ∧ y2 ≤ 256 ∧ 0 ≤ y3 ∧ y3 ≤ 256 ∧ 0 ≤ y4 ∧ y4 ≤ 256) :
    Calls Tryd.prog 3 #[.slice A n c, .slice A1 n1 c1, .slice A2 n2 c2] w fun e w' => e = .returned (.bool true) ∧ Below w.heap.size w w' := by
  have FG := Lib.hid hg
  have HG := Lib.hid hG
  have FA := Lib.hid hl1
  have FB := Lib.hid hl2
  have HB := Lib.hid (Below.refl w.heap.size w)
  have h60d : decide (60 < (n : Int)) = false := by simp; omega
  have h160d : decide (60 < (n1 : Int)) = false := by simp; omega
  have h260d : decide (60 < (n2 : Int)) = false := by simp; omega
  have HR := Lib.hid hr
  have HA := Lib.hid ha
  have HW := Lib.hid hw
  have HWI := Lib.hid hwi
  have HP := Lib.hid hpw
  have HWW := Lib.hid hww
  have HZ := Lib.hid hz
  have hpd : decide (0 < n1) = false := by simp; omega
  have HBS := Lib.hid hb
  have HK1 := Lib.hid hk1
  have HK2 := Lib.hid hk2
  have HK3 := Lib.hid hk3
  clear hg hl1 hl2 hG hr ha hw hwi hpw hww hz hp hb hk1 hk2 hk3
  go_enter Tryd.func3, Tryd.ntmps3
  go_wp2_with fail
  refine (graphAwake_any H _ HG.out).mono ?_
  rintro e w1 ⟨rfl, hb1⟩
  have hBz := HB.out.size
  have HB2 := Lib.hid (HB.out.trans (hb1.mono hBz))
  clear HB hBz
  have HB := HB2
  clear HB2
  have HG2 := Lib.hid (HG.out.next hb1)
  clear HG
  have HG := HG2
  clear HG2
  have FG2 := Lib.hid (FG.out.next hb1)
  clear FG
  have FG := FG2
  clear FG2
  have FA2 := Lib.hid (FA.out.next hb1)
  clear FA
  have FA := FA2
  clear FA2
  have FB2 := Lib.hid (FB.out.next hb1)
  clear FB
  have FB := FB2
  clear FB2
  clear hb1
  go_wp2_with fail
  refine (calls_bool (H.right _ _ _ _ _ FG.out HG.out) HR.out).mono ?_
  rintro e w2 ⟨rfl, hb2⟩
  have hBz := HB.out.size
  have HB2 := Lib.hid (HB.out.trans (hb2.mono hBz))
  clear HB hBz
  have HB := HB2
  clear HB2
  have HG2 := Lib.hid (HG.out.next hb2)
  clear HG
  have HG := HG2
  clear HG2
  have FG2 := Lib.hid (FG.out.next hb2)
  clear FG
  have FG := FG2
  clear FG2
  have FA2 := Lib.hid (FA.out.next hb2)
  clear FA
  have FA := FA2
  clear FA2
  have FB2 := Lib.hid (FB.out.next hb2)
  clear FB
  have FB := FB2
  clear FB2
  clear hb2
  go_wp2_with fail
  refine (calls_ipost (H.whole _ _ _ _ _ _ _ _ _ FG.out FA.out HG.out) HW.out).mono ?_
  rintro e w3 ⟨⟨A3, c3, rfl, hr3, hnil3, hc3⟩, hb3⟩
  have hBz := HB.out.size
  have HB2 := Lib.hid (HB.out.trans (hb3.mono hBz))
  clear HB hBz
  have HB := HB2
  clear HB2
  have HG2 := Lib.hid (HG.out.next hb3)
  clear HG
  have HG := HG2
  clear HG2
  have FG2 := Lib.hid (FG.out.next hb3)
  clear FG
  have FG := FG2
  clear FG2
  have FA2 := Lib.hid (FA.out.next hb3)
  clear FA
  have FA := FA2
  clear FA2
  have FB2 := Lib.hid (FB.out.next hb3)
  clear FB
  have FB := FB2
  clear FB2
  clear hb3
  have F1 := Lib.hid hr3
  have F1c := Lib.hid hc3
  have F1z := Lib.hid hnil3
  clear hr3 hc3 hnil3
  have F1L := Lib.hid (LAsk.mk F1.out F1z.out F1c.out (by omega) HWI.out)
  clear F1c F1z
  clear F1
  go_wp2_with fail
  refine (s_isSet FA.out.reads (ml300 FA.out.few) HA.out).mono ?_
  rintro e w4 ⟨rfl, hb4⟩
  have hBz := HB.out.size
  have HB2 := Lib.hid (HB.out.trans (hb4.mono hBz))
  clear HB hBz
  have HB := HB2
  clear HB2
  have HG2 := Lib.hid (HG.out.next hb4)
  clear HG
  have HG := HG2
  clear HG2
  have FG2 := Lib.hid (FG.out.next hb4)
  clear FG
  have FG := FG2
  clear FG2
  have FA2 := Lib.hid (FA.out.next hb4)
  clear FA
  have FA := FA2
  clear FA2
  have FB2 := Lib.hid (FB.out.next hb4)
  clear FB
  have FB := FB2
  clear FB2
  have F1L2 := Lib.hid (F1L.out.next hb4)
  clear F1L
  have F1L := F1L2
  clear F1L2
  clear hb4
  go_wp2_with fail
  refine (s_part FA.out.reads F1L.out.reads (ml300 FA.out.few) (ml300 F1L.out.few) HP.out).mono ?_
  rintro e w5 ⟨rfl, hb5⟩
  have hBz := HB.out.size
  have HB2 := Lib.hid (HB.out.trans (hb5.mono hBz))
  clear HB hBz
  have HB := HB2
  clear HB2
  have HG2 := Lib.hid (HG.out.next hb5)
  clear HG
  have HG := HG2
  clear HG2
  have FG2 := Lib.hid (FG.out.next hb5)
  clear FG
  have FG := FG2
  clear FG2
  have FA2 := Lib.hid (FA.out.next hb5)
  clear FA
  have FA := FA2
  clear FA2
  have FB2 := Lib.hid (FB.out.next hb5)
  clear FB
  have FB := FB2
  clear FB2
  have F1L2 := Lib.hid (F1L.out.next hb5)
  clear F1L
  have F1L := F1L2
  clear F1L2
  clear hb5
  go_wp2_with fail
  refine (calls_ipost (H.whole _ _ _ _ _ _ _ _ _ FG.out F1L.out HG.out) HWW.out).mono ?_
  rintro e w6 ⟨⟨A6, c6, rfl, hr6, hnil6, hc6⟩, hb6⟩
  have hBz := HB.out.size
  have HB2 := Lib.hid (HB.out.trans (hb6.mono hBz))
  clear HB hBz
  have HB := HB2
  clear HB2
  have HG2 := Lib.hid (HG.out.next hb6)
  clear HG
  have HG := HG2
  clear HG2
  have FG2 := Lib.hid (FG.out.next hb6)
  clear FG
  have FG := FG2
  clear FG2
  have FA2 := Lib.hid (FA.out.next hb6)
  clear FA
  have FA := FA2
  clear FA2
  have FB2 := Lib.hid (FB.out.next hb6)
  clear FB
  have FB := FB2
  clear FB2
  have F1L2 := Lib.hid (F1L.out.next hb6)
  clear F1L
  have F1L := F1L2
  clear F1L2
  clear hb6
  have F2 := Lib.hid hr6
  have F2c := Lib.hid hc6
  have F2z := Lib.hid hnil6
  clear hr6 hc6 hnil6
  go_wp2_with fail
  refine (ri_same F2.out F1L.out.reads (ml300 F1L.out.few) (ml300 F1L.out.few) (same_self _)).mono ?_
  rintro e w7 ⟨rfl, hb7⟩
  have hBz := HB.out.size
  have HB2 := Lib.hid (HB.out.trans (hb7.mono hBz))
  clear HB hBz
  have HB := HB2
  clear HB2
  have HG2 := Lib.hid (HG.out.next hb7)
  clear HG
  have HG := HG2
  clear HG2
  have FG2 := Lib.hid (FG.out.next hb7)
  clear FG
  have FG := FG2
  clear FG2
  have FA2 := Lib.hid (FA.out.next hb7)
  clear FA
  have FA := FA2
  clear FA2
  have FB2 := Lib.hid (FB.out.next hb7)
  clear FB
  have FB := FB2
  clear FB2
  have F1L2 := Lib.hid (F1L.out.next hb7)
  clear F1L
  have F1L := F1L2
  clear F1L2
  have F22 := Lib.hid (F2.out.next hb7)
  clear F2
  have F2 := F22
  clear F22
  clear hb7
  clear F2
  clear F2c F2z
  go_wp2_with fail
  refine (s_has F1L.out.reads (ml300 F1L.out.few) HZ.out).mono ?_
  rintro e w8 ⟨rfl, hb8⟩
  have hBz := HB.out.size
  have HB2 := Lib.hid (HB.out.trans (hb8.mono hBz))
  clear HB hBz
  have HB := HB2
  clear HB2
  have HG2 := Lib.hid (HG.out.next hb8)
  clear HG
  have HG := HG2
  clear HG2
  have FG2 := Lib.hid (FG.out.next hb8)
  clear FG
  have FG := FG2
  clear FG2
  have FA2 := Lib.hid (FA.out.next hb8)
  clear FA
  have FA := FA2
  clear FA2
  have FB2 := Lib.hid (FB.out.next hb8)
  clear FB
  have FB := FB2
  clear FB2
  have F1L2 := Lib.hid (F1L.out.next hb8)
  clear F1L
  have F1L := F1L2
  clear F1L2
  clear hb8
  clear F1L
  go_wp2_with fail
  refine (s_isSet FB.out.reads (ml300 FB.out.few) HBS.out).mono ?_
  rintro e w9 ⟨rfl, hb9⟩
  have hBz := HB.out.size
  have HB2 := Lib.hid (HB.out.trans (hb9.mono hBz))
  clear HB hBz
  have HB := HB2
  clear HB2
  have HG2 := Lib.hid (HG.out.next hb9)
  clear HG
  have HG := HG2
  clear HG2
  have FG2 := Lib.hid (FG.out.next hb9)
  clear FG
  have FG := FG2
  clear FG2
  have FA2 := Lib.hid (FA.out.next hb9)
  clear FA
  have FA := FA2
  clear FA2
  have FB2 := Lib.hid (FB.out.next hb9)
  clear FB
  have FB := FB2
  clear FB2
  clear hb9
  go_wp2_with fail
  refine (s_meet FA.out.reads FB.out.reads (ml300 FA.out.few) (ml300 FB.out.few) HG.out).mono ?_
  rintro e w10 ⟨⟨A10, c10, rfl, hr10, hnil10, hc10⟩, hb10⟩
  have hBz := HB.out.size
  have HB2 := Lib.hid (HB.out.trans (hb10.mono hBz))
  clear HB hBz
  have HB := HB2
  clear HB2
  have HG2 := Lib.hid (HG.out.next hb10)
  clear HG
  have HG := HG2
  clear HG2
  have FG2 := Lib.hid (FG.out.next hb10)
  clear FG
  have FG := FG2
  clear FG2
  have FA2 := Lib.hid (FA.out.next hb10)
  clear FA
  have FA := FA2
  clear FA2
  have FB2 := Lib.hid (FB.out.next hb10)
  clear FB
  have FB := FB2
  clear FB2
  clear hb10
  have F3 := Lib.hid hr10
  have F3c := Lib.hid hc10
  have F3z := Lib.hid hnil10
  clear hr10 hc10 hnil10
  go_wp2_with fail
  refine (s_less FA.out.reads FB.out.reads (ml300 FA.out.few) (ml300 FB.out.few) HG.out).mono ?_
  rintro e w11 ⟨⟨A11, c11, rfl, hr11, hnil11, hc11⟩, hb11⟩
  have hBz := HB.out.size
  have HB2 := Lib.hid (HB.out.trans (hb11.mono hBz))
  clear HB hBz
  have HB := HB2
  clear HB2
  have HG2 := Lib.hid (HG.out.next hb11)
  clear HG
  have HG := HG2
  clear HG2
  have FG2 := Lib.hid (FG.out.next hb11)
  clear FG
  have FG := FG2
  clear FG2
  have FA2 := Lib.hid (FA.out.next hb11)
  clear FA
  have FA := FA2
  clear FA2
  have FB2 := Lib.hid (FB.out.next hb11)
  clear FB
  have FB := FB2
  clear FB2
  have F32 := Lib.hid (F3.out.next hb11)
  clear F3
  have F3 := F32
  clear F32
  clear hb11
  have F4 := Lib.hid hr11
  have F4c := Lib.hid hc11
  have F4z := Lib.hid hnil11
  clear hr11 hc11 hnil11
  go_wp2_with fail
  refine (calls_kinds (H.kinds _ _ _ _ _ _ _ _ _ FG.out ⟨F3.out, F3z.out, F3c.out, Nat.le_trans (length_whichL 1 a b) (by omega), right_i64 (right_meetL a b)⟩ HG.out) HK1.out).mono ?_
  rintro e w12 ⟨rfl, hb12⟩
  have hBz := HB.out.size
  have HB2 := Lib.hid (HB.out.trans (hb12.mono hBz))
  clear HB hBz
  have HB := HB2
  clear HB2
  have HG2 := Lib.hid (HG.out.next hb12)
  clear HG
  have HG := HG2
  clear HG2
  have FG2 := Lib.hid (FG.out.next hb12)
  clear FG
  have FG := FG2
  clear FG2
  have FA2 := Lib.hid (FA.out.next hb12)
  clear FA
  have FA := FA2
  clear FA2
  have FB2 := Lib.hid (FB.out.next hb12)
  clear FB
  have FB := FB2
  clear FB2
  have F32 := Lib.hid (F3.out.next hb12)
  clear F3
  have F3 := F32
  clear F32
  have F42 := Lib.hid (F4.out.next hb12)
  clear F4
  have F4 := F42
  clear F42
  clear hb12
  go_wp2_with fail
  refine (calls_kinds (H.kinds _ _ _ _ _ _ _ _ _ FG.out ⟨F4.out, F4z.out, F4c.out, Nat.le_trans (length_whichL 2 a b) (by omega), right_i64 (right_lessL a b)⟩ HG.out) HK2.out).mono ?_
  rintro e w13 ⟨rfl, hb13⟩
  have hBz := HB.out.size
  have HB2 := Lib.hid (HB.out.trans (hb13.mono hBz))
  clear HB hBz
  have HB := HB2
  clear HB2
  have HG2 := Lib.hid (HG.out.next hb13)
  clear HG
  have HG := HG2
  clear HG2
  have FG2 := Lib.hid (FG.out.next hb13)
  clear FG
  have FG := FG2
  clear FG2
  have FA2 := Lib.hid (FA.out.next hb13)
  clear FA
  have FA := FA2
  clear FA2
  have FB2 := Lib.hid (FB.out.next hb13)
  clear FB
  have FB := FB2
  clear FB2
  have F32 := Lib.hid (F3.out.next hb13)
  clear F3
  have F3 := F32
  clear F32
  have F42 := Lib.hid (F4.out.next hb13)
  clear F4
  have F4 := F42
  clear F42
  clear hb13
  go_wp2_with fail
  refine (calls_kinds (H.kinds _ _ _ _ _ _ _ _ _ FG.out FA.out HG.out) HK3.out).mono ?_
  rintro e w14 ⟨rfl, hb14⟩
  have hBz := HB.out.size
  have HB2 := Lib.hid (HB.out.trans (hb14.mono hBz))
  clear HB hBz
  have HB := HB2
  clear HB2
  have HG2 := Lib.hid (HG.out.next hb14)
  clear HG
  have HG := HG2
  clear HG2
  have FG2 := Lib.hid (FG.out.next hb14)
  clear FG
  have FG := FG2
  clear FG2
  have FA2 := Lib.hid (FA.out.next hb14)
  clear FA
  have FA := FA2
  clear FA2
  have FB2 := Lib.hid (FB.out.next hb14)
  clear FB
  have FB := FB2
  clear FB2
  have F32 := Lib.hid (F3.out.next hb14)
  clear F3
  have F3 := F32
  clear F32
  have F42 := Lib.hid (F4.out.next hb14)
  clear F4
  have F4 := F42
  clear F42
  clear hb14
  clear F3
  clear F4
  clear FA
  clear FB
  clear FG
  clear HG
  clear F3c F3z F4c F4z
  have h3 := Lib.hid (three_arr w14 x0 x1 x2 x3 x4 y0 y1 y2 y3 y4)
  go_wp2
  go_loopw [13] (fun i wr => ∃ k : Nat, k ≤ 5 ∧ i = .int .i64 k ∧ Three w14 x0 x1 x2 x3 x4 y0 y1 y2 y3 y4 wr) (fun i _ => 5 - (intOf i).toNat)
  case atStart => exact ⟨0, by omega, rfl, h3.out⟩
  case round =>
    obtain ⟨k, hk, rfl, ht⟩ := hrel
    have HT := Lib.hid ht
    clear ht
    by_cases hlt : k < 5
    · rcases (show k = 0 ∨ k = 1 ∨ k = 2 ∨ k = 3 ∨ k = 4 by omega) with rfl | rfl | rfl | rfl | rfl
      · obtain ⟨e1, e2, e3⟩ := HT.out.c0
        have hwr : IntKind.i64.wrap (x0 + y0) = x0 + y0 := IntWalk.i64_in _ (by omega)
        go_wp2
        go_quiet (fail)
        go_wp2
        go_roundw
        case rel => exact ⟨1, by omega, rfl, HT.out.drewN _⟩
        case measure => simp [intOf]
      · obtain ⟨e1, e2, e3⟩ := HT.out.c1
        have hwr : IntKind.i64.wrap (x1 + y1) = x1 + y1 := IntWalk.i64_in _ (by omega)
        go_wp2
        go_quiet (fail)
        go_wp2
        go_roundw
        case rel => exact ⟨2, by omega, rfl, HT.out.drewN _⟩
        case measure => simp [intOf]
      · obtain ⟨e1, e2, e3⟩ := HT.out.c2
        have hwr : IntKind.i64.wrap (x2 + y2) = x2 + y2 := IntWalk.i64_in _ (by omega)
        go_wp2
        go_quiet (fail)
        go_wp2
        go_roundw
        case rel => exact ⟨3, by omega, rfl, HT.out.drewN _⟩
        case measure => simp [intOf]
      · obtain ⟨e1, e2, e3⟩ := HT.out.c3
        have hwr : IntKind.i64.wrap (x3 + y3) = x3 + y3 := IntWalk.i64_in _ (by omega)
        go_wp2
        go_quiet (fail)
        go_wp2
        go_roundw
        case rel => exact ⟨4, by omega, rfl, HT.out.drewN _⟩
        case measure => simp [intOf]
      · obtain ⟨e1, e2, e3⟩ := HT.out.c4
        have hwr : IntKind.i64.wrap (x4 + y4) = x4 + y4 := IntWalk.i64_in _ (by omega)
        go_wp2
        go_quiet (fail)
        go_wp2
        go_roundw
        case rel => exact ⟨5, by omega, rfl, HT.out.drewN _⟩
        case measure => simp [intOf]
    · have HBB := Lib.hid (HB.out.trans (HT.out.bel.mono HB.out.size))
      go_wp2
      go_ret
      exact ⟨rfl, HBB.out⟩

set_option maxRecDepth 100000 in
set_option maxHeartbeats 4000000 in
theorem graphWhole_nof (H : GraphOk) (A : Option Addr) (n c : Nat) (A1 : Option Addr) (n1 c1 : Nat) (A2 : Option Addr) (n2 c2 : Nat) (g : Gr) (a b : List Int) (w : World) (hg : GAsk w A n c g) (h60 : n ≤ 60) (hl1 : LAsk w A1 n1 c1 a) (h160 : n1 ≤ 60) (hl2 : LAsk w A2 n2 c2 b) (h260 : n2 ≤ 60) (hG : Glob w) (hr : rightG g = true) (ha : rightB a = true) (W : List Int) (hw : wholeL g a = W) (hwl : W.length ≤ 256) (hwi : ∀ x ∈ W, I64 x) (hpw : partB a W = true) (hww : wholeL g W = W) (hz : hasB W 0 = true) (hp : 0 < n1) (y : Int) (hy : a.getD (n1 - 1) 0 = y) (hyn : y < (n : Int)) (hb : rightB b = false) (hk : kVal g b = .agg #[.int .i64 0, .int .i64 0, .int .i64 0, .int .i64 0, .int .i64 0]) :
    Calls Tryd.prog 3 #[.slice A n c, .slice A1 n1 c1, .slice A2 n2 c2] w fun e w' => e = .returned (.bool true) ∧ Below w.heap.size w w' := by
  have FG := Lib.hid hg
  have HG := Lib.hid hG
  have FA := Lib.hid hl1
  have FB := Lib.hid hl2
  have HB := Lib.hid (Below.refl w.heap.size w)
  have h60d : decide (60 < (n : Int)) = false := by simp; omega
  have h160d : decide (60 < (n1 : Int)) = false := by simp; omega
  have h260d : decide (60 < (n2 : Int)) = false := by simp; omega
  have HR := Lib.hid hr
  have HA := Lib.hid ha
  have HW := Lib.hid hw
  have HWI := Lib.hid hwi
  have HP := Lib.hid hpw
  have HWW := Lib.hid hww
  have HZ := Lib.hid hz
  have HY := Lib.hid hy
  have hpd : decide (0 < n1) = true := by simp; omega
  have hix : ((n1 : Int) - 1).toNat = n1 - 1 := by omega
  have hynd : decide ((n : Int) ≤ y) = false := by simp; omega
  have HBS := Lib.hid hb
  have HK := Lib.hid hk
  clear hg hl1 hl2 hG hr ha hw hwi hpw hww hz hy hb hk
  go_enter Tryd.func3, Tryd.ntmps3
  go_wp2_with fail
  refine (graphAwake_any H _ HG.out).mono ?_
  rintro e w1 ⟨rfl, hb1⟩
  have hBz := HB.out.size
  have HB2 := Lib.hid (HB.out.trans (hb1.mono hBz))
  clear HB hBz
  have HB := HB2
  clear HB2
  have HG2 := Lib.hid (HG.out.next hb1)
  clear HG
  have HG := HG2
  clear HG2
  have FG2 := Lib.hid (FG.out.next hb1)
  clear FG
  have FG := FG2
  clear FG2
  have FA2 := Lib.hid (FA.out.next hb1)
  clear FA
  have FA := FA2
  clear FA2
  have FB2 := Lib.hid (FB.out.next hb1)
  clear FB
  have FB := FB2
  clear FB2
  clear hb1
  go_wp2_with fail
  refine (calls_bool (H.right _ _ _ _ _ FG.out HG.out) HR.out).mono ?_
  rintro e w2 ⟨rfl, hb2⟩
  have hBz := HB.out.size
  have HB2 := Lib.hid (HB.out.trans (hb2.mono hBz))
  clear HB hBz
  have HB := HB2
  clear HB2
  have HG2 := Lib.hid (HG.out.next hb2)
  clear HG
  have HG := HG2
  clear HG2
  have FG2 := Lib.hid (FG.out.next hb2)
  clear FG
  have FG := FG2
  clear FG2
  have FA2 := Lib.hid (FA.out.next hb2)
  clear FA
  have FA := FA2
  clear FA2
  have FB2 := Lib.hid (FB.out.next hb2)
  clear FB
  have FB := FB2
  clear FB2
  clear hb2
  go_wp2_with fail
  refine (calls_ipost (H.whole _ _ _ _ _ _ _ _ _ FG.out FA.out HG.out) HW.out).mono ?_
  rintro e w3 ⟨⟨A3, c3, rfl, hr3, hnil3, hc3⟩, hb3⟩
  have hBz := HB.out.size
  have HB2 := Lib.hid (HB.out.trans (hb3.mono hBz))
  clear HB hBz
  have HB := HB2
  clear HB2
  have HG2 := Lib.hid (HG.out.next hb3)
  clear HG
  have HG := HG2
  clear HG2
  have FG2 := Lib.hid (FG.out.next hb3)
  clear FG
  have FG := FG2
  clear FG2
  have FA2 := Lib.hid (FA.out.next hb3)
  clear FA
  have FA := FA2
  clear FA2
  have FB2 := Lib.hid (FB.out.next hb3)
  clear FB
  have FB := FB2
  clear FB2
  clear hb3
  have F1 := Lib.hid hr3
  have F1c := Lib.hid hc3
  have F1z := Lib.hid hnil3
  clear hr3 hc3 hnil3
  have F1L := Lib.hid (LAsk.mk F1.out F1z.out F1c.out (by omega) HWI.out)
  clear F1c F1z
  clear F1
  go_wp2_with fail
  refine (s_isSet FA.out.reads (ml300 FA.out.few) HA.out).mono ?_
  rintro e w4 ⟨rfl, hb4⟩
  have hBz := HB.out.size
  have HB2 := Lib.hid (HB.out.trans (hb4.mono hBz))
  clear HB hBz
  have HB := HB2
  clear HB2
  have HG2 := Lib.hid (HG.out.next hb4)
  clear HG
  have HG := HG2
  clear HG2
  have FG2 := Lib.hid (FG.out.next hb4)
  clear FG
  have FG := FG2
  clear FG2
  have FA2 := Lib.hid (FA.out.next hb4)
  clear FA
  have FA := FA2
  clear FA2
  have FB2 := Lib.hid (FB.out.next hb4)
  clear FB
  have FB := FB2
  clear FB2
  have F1L2 := Lib.hid (F1L.out.next hb4)
  clear F1L
  have F1L := F1L2
  clear F1L2
  clear hb4
  obtain ⟨ba, oa, ea, _, hca⟩ := FA.out.reads.one (k := n1 - 1) (by omega)
  subst ea
  rw [HY.out] at hca
  go_wp2_with fail
  refine (s_part FA.out.reads F1L.out.reads (ml300 FA.out.few) (ml300 F1L.out.few) HP.out).mono ?_
  rintro e w5 ⟨rfl, hb5⟩
  have hBz := HB.out.size
  have HB2 := Lib.hid (HB.out.trans (hb5.mono hBz))
  clear HB hBz
  have HB := HB2
  clear HB2
  have HG2 := Lib.hid (HG.out.next hb5)
  clear HG
  have HG := HG2
  clear HG2
  have FG2 := Lib.hid (FG.out.next hb5)
  clear FG
  have FG := FG2
  clear FG2
  have FA2 := Lib.hid (FA.out.next hb5)
  clear FA
  have FA := FA2
  clear FA2
  have FB2 := Lib.hid (FB.out.next hb5)
  clear FB
  have FB := FB2
  clear FB2
  have F1L2 := Lib.hid (F1L.out.next hb5)
  clear F1L
  have F1L := F1L2
  clear F1L2
  clear hb5
  clear hca
  go_wp2_with fail
  refine (calls_ipost (H.whole _ _ _ _ _ _ _ _ _ FG.out F1L.out HG.out) HWW.out).mono ?_
  rintro e w6 ⟨⟨A6, c6, rfl, hr6, hnil6, hc6⟩, hb6⟩
  have hBz := HB.out.size
  have HB2 := Lib.hid (HB.out.trans (hb6.mono hBz))
  clear HB hBz
  have HB := HB2
  clear HB2
  have HG2 := Lib.hid (HG.out.next hb6)
  clear HG
  have HG := HG2
  clear HG2
  have FG2 := Lib.hid (FG.out.next hb6)
  clear FG
  have FG := FG2
  clear FG2
  have FA2 := Lib.hid (FA.out.next hb6)
  clear FA
  have FA := FA2
  clear FA2
  have FB2 := Lib.hid (FB.out.next hb6)
  clear FB
  have FB := FB2
  clear FB2
  have F1L2 := Lib.hid (F1L.out.next hb6)
  clear F1L
  have F1L := F1L2
  clear F1L2
  clear hb6
  have F2 := Lib.hid hr6
  have F2c := Lib.hid hc6
  have F2z := Lib.hid hnil6
  clear hr6 hc6 hnil6
  go_wp2_with fail
  refine (ri_same F2.out F1L.out.reads (ml300 F1L.out.few) (ml300 F1L.out.few) (same_self _)).mono ?_
  rintro e w7 ⟨rfl, hb7⟩
  have hBz := HB.out.size
  have HB2 := Lib.hid (HB.out.trans (hb7.mono hBz))
  clear HB hBz
  have HB := HB2
  clear HB2
  have HG2 := Lib.hid (HG.out.next hb7)
  clear HG
  have HG := HG2
  clear HG2
  have FG2 := Lib.hid (FG.out.next hb7)
  clear FG
  have FG := FG2
  clear FG2
  have FA2 := Lib.hid (FA.out.next hb7)
  clear FA
  have FA := FA2
  clear FA2
  have FB2 := Lib.hid (FB.out.next hb7)
  clear FB
  have FB := FB2
  clear FB2
  have F1L2 := Lib.hid (F1L.out.next hb7)
  clear F1L
  have F1L := F1L2
  clear F1L2
  have F22 := Lib.hid (F2.out.next hb7)
  clear F2
  have F2 := F22
  clear F22
  clear hb7
  clear F2
  clear F2c F2z
  go_wp2_with fail
  refine (s_has F1L.out.reads (ml300 F1L.out.few) HZ.out).mono ?_
  rintro e w8 ⟨rfl, hb8⟩
  have hBz := HB.out.size
  have HB2 := Lib.hid (HB.out.trans (hb8.mono hBz))
  clear HB hBz
  have HB := HB2
  clear HB2
  have HG2 := Lib.hid (HG.out.next hb8)
  clear HG
  have HG := HG2
  clear HG2
  have FG2 := Lib.hid (FG.out.next hb8)
  clear FG
  have FG := FG2
  clear FG2
  have FA2 := Lib.hid (FA.out.next hb8)
  clear FA
  have FA := FA2
  clear FA2
  have FB2 := Lib.hid (FB.out.next hb8)
  clear FB
  have FB := FB2
  clear FB2
  have F1L2 := Lib.hid (F1L.out.next hb8)
  clear F1L
  have F1L := F1L2
  clear F1L2
  clear hb8
  clear F1L
  go_wp2_with fail
  refine (s_isSet FB.out.reads (ml300 FB.out.few) HBS.out).mono ?_
  rintro e w9 ⟨rfl, hb9⟩
  have hBz := HB.out.size
  have HB2 := Lib.hid (HB.out.trans (hb9.mono hBz))
  clear HB hBz
  have HB := HB2
  clear HB2
  have HG2 := Lib.hid (HG.out.next hb9)
  clear HG
  have HG := HG2
  clear HG2
  have FG2 := Lib.hid (FG.out.next hb9)
  clear FG
  have FG := FG2
  clear FG2
  have FA2 := Lib.hid (FA.out.next hb9)
  clear FA
  have FA := FA2
  clear FA2
  have FB2 := Lib.hid (FB.out.next hb9)
  clear FB
  have FB := FB2
  clear FB2
  clear hb9
  go_wp2_with fail
  refine (calls_kinds (H.kinds _ _ _ _ _ _ _ _ _ FG.out FB.out HG.out) HK.out).mono ?_
  rintro e w10 ⟨rfl, hb10⟩
  have hBz := HB.out.size
  have HB2 := Lib.hid (HB.out.trans (hb10.mono hBz))
  clear HB hBz
  have HB := HB2
  clear HB2
  have HG2 := Lib.hid (HG.out.next hb10)
  clear HG
  have HG := HG2
  clear HG2
  have FG2 := Lib.hid (FG.out.next hb10)
  clear FG
  have FG := FG2
  clear FG2
  have FA2 := Lib.hid (FA.out.next hb10)
  clear FA
  have FA := FA2
  clear FA2
  have FB2 := Lib.hid (FB.out.next hb10)
  clear FB
  have FB := FB2
  clear FB2
  clear hb10
  have heq := run_eq5 0 0 0 0 0
  go_wp2
  go_ret
  exact ⟨rfl, HB.out⟩

set_option maxRecDepth 100000 in
set_option maxHeartbeats 4000000 in
theorem graphWhole_isf (H : GraphOk) (A : Option Addr) (n c : Nat) (A1 : Option Addr) (n1 c1 : Nat) (A2 : Option Addr) (n2 c2 : Nat) (g : Gr) (a b : List Int) (w : World) (hg : GAsk w A n c g) (h60 : n ≤ 60) (hl1 : LAsk w A1 n1 c1 a) (h160 : n1 ≤ 60) (hl2 : LAsk w A2 n2 c2 b) (h260 : n2 ≤ 60) (hG : Glob w) (hr : rightG g = true) (ha : rightB a = true) (W : List Int) (hw : wholeL g a = W) (hwl : W.length ≤ 256) (hwi : ∀ x ∈ W, I64 x) (hpw : partB a W = true) (hww : wholeL g W = W) (hz : hasB W 0 = true) (hp : 0 < n1) (y : Int) (hy : a.getD (n1 - 1) 0 = y) (hyn : y < (n : Int)) (hb : rightB b = true) (x0 x1 x2 x3 x4 y0 y1 y2 y3 y4 : Int) (hk1 : kVal g (meetL a b) = .agg #[.int .i64 x0, .int .i64 x1, .int .i64 x2, .int .i64 x3, .int .i64 x4]) (hk2 : kVal g (lessL a b) = .agg #[.int .i64 y0, .int .i64 y1, .int .i64 y2, .int .i64 y3, .int .i64 y4]) (hk3 : kVal g a = .agg #[.int .i64 (x0 + y0), .int .i64 (x1 + y1), .int .i64 (x2 + y2), .int .i64 (x3 + y3), .int .i64 (x4 + y4)]) (hbd : (0 ≤ x0 ∧ x0 ≤ 256 ∧ 0 ≤ x1 ∧ x1 ≤ 256 ∧ 0 ≤ x2 ∧ x2 ≤ 256 ∧ 0 ≤ x3 ∧ x3 ≤ 256 ∧ 0 ≤ x4 ∧ x4 ≤ 256) ∧ 0 ≤ y0 ∧ y0 ≤ 256 ∧ 0 ≤ y1 ∧ y1 ≤ 256 ∧ 0 ≤ y2 ∧ y2 ≤ 256 ∧ 0 ≤ y3 ∧ y3 ≤ 256 ∧ 0 ≤ y4 ∧ y4 ≤ 256) :
    Calls Tryd.prog 3 #[.slice A n c, .slice A1 n1 c1, .slice A2 n2 c2] w fun e w' => e = .returned (.bool true) ∧ Below w.heap.size w w' := by
  have FG := Lib.hid hg
  have HG := Lib.hid hG
  have FA := Lib.hid hl1
  have FB := Lib.hid hl2
  have HB := Lib.hid (Below.refl w.heap.size w)
  have h60d : decide (60 < (n : Int)) = false := by simp; omega
  have h160d : decide (60 < (n1 : Int)) = false := by simp; omega
  have h260d : decide (60 < (n2 : Int)) = false := by simp; omega
  have HR := Lib.hid hr
  have HA := Lib.hid ha
  have HW := Lib.hid hw
  have HWI := Lib.hid hwi
  have HP := Lib.hid hpw
  have HWW := Lib.hid hww
  have HZ := Lib.hid hz
  have HY := Lib.hid hy
  have hpd : decide (0 < n1) = true := by simp; omega
  have hix : ((n1 : Int) - 1).toNat = n1 - 1 := by omega
  have hynd : decide ((n : Int) ≤ y) = false := by simp; omega
  have HBS := Lib.hid hb
  have HK1 := Lib.hid hk1
  have HK2 := Lib.hid hk2
  have HK3 := Lib.hid hk3
  clear hg hl1 hl2 hG hr ha hw hwi hpw hww hz hy hb hk1 hk2 hk3
  go_enter Tryd.func3, Tryd.ntmps3
  go_wp2_with fail
  refine (graphAwake_any H _ HG.out).mono ?_
  rintro e w1 ⟨rfl, hb1⟩
  have hBz := HB.out.size
  have HB2 := Lib.hid (HB.out.trans (hb1.mono hBz))
  clear HB hBz
  have HB := HB2
  clear HB2
  have HG2 := Lib.hid (HG.out.next hb1)
  clear HG
  have HG := HG2
  clear HG2
  have FG2 := Lib.hid (FG.out.next hb1)
  clear FG
  have FG := FG2
  clear FG2
  have FA2 := Lib.hid (FA.out.next hb1)
  clear FA
  have FA := FA2
  clear FA2
  have FB2 := Lib.hid (FB.out.next hb1)
  clear FB
  have FB := FB2
  clear FB2
  clear hb1
  go_wp2_with fail
  refine (calls_bool (H.right _ _ _ _ _ FG.out HG.out) HR.out).mono ?_
  rintro e w2 ⟨rfl, hb2⟩
  have hBz := HB.out.size
  have HB2 := Lib.hid (HB.out.trans (hb2.mono hBz))
  clear HB hBz
  have HB := HB2
  clear HB2
  have HG2 := Lib.hid (HG.out.next hb2)
  clear HG
  have HG := HG2
  clear HG2
  have FG2 := Lib.hid (FG.out.next hb2)
  clear FG
  have FG := FG2
  clear FG2
  have FA2 := Lib.hid (FA.out.next hb2)
  clear FA
  have FA := FA2
  clear FA2
  have FB2 := Lib.hid (FB.out.next hb2)
  clear FB
  have FB := FB2
  clear FB2
  clear hb2
  go_wp2_with fail
  refine (calls_ipost (H.whole _ _ _ _ _ _ _ _ _ FG.out FA.out HG.out) HW.out).mono ?_
  rintro e w3 ⟨⟨A3, c3, rfl, hr3, hnil3, hc3⟩, hb3⟩
  have hBz := HB.out.size
  have HB2 := Lib.hid (HB.out.trans (hb3.mono hBz))
  clear HB hBz
  have HB := HB2
  clear HB2
  have HG2 := Lib.hid (HG.out.next hb3)
  clear HG
  have HG := HG2
  clear HG2
  have FG2 := Lib.hid (FG.out.next hb3)
  clear FG
  have FG := FG2
  clear FG2
  have FA2 := Lib.hid (FA.out.next hb3)
  clear FA
  have FA := FA2
  clear FA2
  have FB2 := Lib.hid (FB.out.next hb3)
  clear FB
  have FB := FB2
  clear FB2
  clear hb3
  have F1 := Lib.hid hr3
  have F1c := Lib.hid hc3
  have F1z := Lib.hid hnil3
  clear hr3 hc3 hnil3
  have F1L := Lib.hid (LAsk.mk F1.out F1z.out F1c.out (by omega) HWI.out)
  clear F1c F1z
  clear F1
  go_wp2_with fail
  refine (s_isSet FA.out.reads (ml300 FA.out.few) HA.out).mono ?_
  rintro e w4 ⟨rfl, hb4⟩
  have hBz := HB.out.size
  have HB2 := Lib.hid (HB.out.trans (hb4.mono hBz))
  clear HB hBz
  have HB := HB2
  clear HB2
  have HG2 := Lib.hid (HG.out.next hb4)
  clear HG
  have HG := HG2
  clear HG2
  have FG2 := Lib.hid (FG.out.next hb4)
  clear FG
  have FG := FG2
  clear FG2
  have FA2 := Lib.hid (FA.out.next hb4)
  clear FA
  have FA := FA2
  clear FA2
  have FB2 := Lib.hid (FB.out.next hb4)
  clear FB
  have FB := FB2
  clear FB2
  have F1L2 := Lib.hid (F1L.out.next hb4)
  clear F1L
  have F1L := F1L2
  clear F1L2
  clear hb4
  obtain ⟨ba, oa, ea, _, hca⟩ := FA.out.reads.one (k := n1 - 1) (by omega)
  subst ea
  rw [HY.out] at hca
  go_wp2_with fail
  refine (s_part FA.out.reads F1L.out.reads (ml300 FA.out.few) (ml300 F1L.out.few) HP.out).mono ?_
  rintro e w5 ⟨rfl, hb5⟩
  have hBz := HB.out.size
  have HB2 := Lib.hid (HB.out.trans (hb5.mono hBz))
  clear HB hBz
  have HB := HB2
  clear HB2
  have HG2 := Lib.hid (HG.out.next hb5)
  clear HG
  have HG := HG2
  clear HG2
  have FG2 := Lib.hid (FG.out.next hb5)
  clear FG
  have FG := FG2
  clear FG2
  have FA2 := Lib.hid (FA.out.next hb5)
  clear FA
  have FA := FA2
  clear FA2
  have FB2 := Lib.hid (FB.out.next hb5)
  clear FB
  have FB := FB2
  clear FB2
  have F1L2 := Lib.hid (F1L.out.next hb5)
  clear F1L
  have F1L := F1L2
  clear F1L2
  clear hb5
  clear hca
  go_wp2_with fail
  refine (calls_ipost (H.whole _ _ _ _ _ _ _ _ _ FG.out F1L.out HG.out) HWW.out).mono ?_
  rintro e w6 ⟨⟨A6, c6, rfl, hr6, hnil6, hc6⟩, hb6⟩
  have hBz := HB.out.size
  have HB2 := Lib.hid (HB.out.trans (hb6.mono hBz))
  clear HB hBz
  have HB := HB2
  clear HB2
  have HG2 := Lib.hid (HG.out.next hb6)
  clear HG
  have HG := HG2
  clear HG2
  have FG2 := Lib.hid (FG.out.next hb6)
  clear FG
  have FG := FG2
  clear FG2
  have FA2 := Lib.hid (FA.out.next hb6)
  clear FA
  have FA := FA2
  clear FA2
  have FB2 := Lib.hid (FB.out.next hb6)
  clear FB
  have FB := FB2
  clear FB2
  have F1L2 := Lib.hid (F1L.out.next hb6)
  clear F1L
  have F1L := F1L2
  clear F1L2
  clear hb6
  have F2 := Lib.hid hr6
  have F2c := Lib.hid hc6
  have F2z := Lib.hid hnil6
  clear hr6 hc6 hnil6
  go_wp2_with fail
  refine (ri_same F2.out F1L.out.reads (ml300 F1L.out.few) (ml300 F1L.out.few) (same_self _)).mono ?_
  rintro e w7 ⟨rfl, hb7⟩
  have hBz := HB.out.size
  have HB2 := Lib.hid (HB.out.trans (hb7.mono hBz))
  clear HB hBz
  have HB := HB2
  clear HB2
  have HG2 := Lib.hid (HG.out.next hb7)
  clear HG
  have HG := HG2
  clear HG2
  have FG2 := Lib.hid (FG.out.next hb7)
  clear FG
  have FG := FG2
  clear FG2
  have FA2 := Lib.hid (FA.out.next hb7)
  clear FA
  have FA := FA2
  clear FA2
  have FB2 := Lib.hid (FB.out.next hb7)
  clear FB
  have FB := FB2
  clear FB2
  have F1L2 := Lib.hid (F1L.out.next hb7)
  clear F1L
  have F1L := F1L2
  clear F1L2
  have F22 := Lib.hid (F2.out.next hb7)
  clear F2
  have F2 := F22
  clear F22
  clear hb7
  clear F2
  clear F2c F2z
  go_wp2_with fail
  refine (s_has F1L.out.reads (ml300 F1L.out.few) HZ.out).mono ?_
  rintro e w8 ⟨rfl, hb8⟩
  have hBz := HB.out.size
  have HB2 := Lib.hid (HB.out.trans (hb8.mono hBz))
  clear HB hBz
  have HB := HB2
  clear HB2
  have HG2 := Lib.hid (HG.out.next hb8)
  clear HG
  have HG := HG2
  clear HG2
  have FG2 := Lib.hid (FG.out.next hb8)
  clear FG
  have FG := FG2
  clear FG2
  have FA2 := Lib.hid (FA.out.next hb8)
  clear FA
  have FA := FA2
  clear FA2
  have FB2 := Lib.hid (FB.out.next hb8)
  clear FB
  have FB := FB2
  clear FB2
  have F1L2 := Lib.hid (F1L.out.next hb8)
  clear F1L
  have F1L := F1L2
  clear F1L2
  clear hb8
  clear F1L
  go_wp2_with fail
  refine (s_isSet FB.out.reads (ml300 FB.out.few) HBS.out).mono ?_
  rintro e w9 ⟨rfl, hb9⟩
  have hBz := HB.out.size
  have HB2 := Lib.hid (HB.out.trans (hb9.mono hBz))
  clear HB hBz
  have HB := HB2
  clear HB2
  have HG2 := Lib.hid (HG.out.next hb9)
  clear HG
  have HG := HG2
  clear HG2
  have FG2 := Lib.hid (FG.out.next hb9)
  clear FG
  have FG := FG2
  clear FG2
  have FA2 := Lib.hid (FA.out.next hb9)
  clear FA
  have FA := FA2
  clear FA2
  have FB2 := Lib.hid (FB.out.next hb9)
  clear FB
  have FB := FB2
  clear FB2
  clear hb9
  go_wp2_with fail
  refine (s_meet FA.out.reads FB.out.reads (ml300 FA.out.few) (ml300 FB.out.few) HG.out).mono ?_
  rintro e w10 ⟨⟨A10, c10, rfl, hr10, hnil10, hc10⟩, hb10⟩
  have hBz := HB.out.size
  have HB2 := Lib.hid (HB.out.trans (hb10.mono hBz))
  clear HB hBz
  have HB := HB2
  clear HB2
  have HG2 := Lib.hid (HG.out.next hb10)
  clear HG
  have HG := HG2
  clear HG2
  have FG2 := Lib.hid (FG.out.next hb10)
  clear FG
  have FG := FG2
  clear FG2
  have FA2 := Lib.hid (FA.out.next hb10)
  clear FA
  have FA := FA2
  clear FA2
  have FB2 := Lib.hid (FB.out.next hb10)
  clear FB
  have FB := FB2
  clear FB2
  clear hb10
  have F3 := Lib.hid hr10
  have F3c := Lib.hid hc10
  have F3z := Lib.hid hnil10
  clear hr10 hc10 hnil10
  go_wp2_with fail
  refine (s_less FA.out.reads FB.out.reads (ml300 FA.out.few) (ml300 FB.out.few) HG.out).mono ?_
  rintro e w11 ⟨⟨A11, c11, rfl, hr11, hnil11, hc11⟩, hb11⟩
  have hBz := HB.out.size
  have HB2 := Lib.hid (HB.out.trans (hb11.mono hBz))
  clear HB hBz
  have HB := HB2
  clear HB2
  have HG2 := Lib.hid (HG.out.next hb11)
  clear HG
  have HG := HG2
  clear HG2
  have FG2 := Lib.hid (FG.out.next hb11)
  clear FG
  have FG := FG2
  clear FG2
  have FA2 := Lib.hid (FA.out.next hb11)
  clear FA
  have FA := FA2
  clear FA2
  have FB2 := Lib.hid (FB.out.next hb11)
  clear FB
  have FB := FB2
  clear FB2
  have F32 := Lib.hid (F3.out.next hb11)
  clear F3
  have F3 := F32
  clear F32
  clear hb11
  have F4 := Lib.hid hr11
  have F4c := Lib.hid hc11
  have F4z := Lib.hid hnil11
  clear hr11 hc11 hnil11
  go_wp2_with fail
  refine (calls_kinds (H.kinds _ _ _ _ _ _ _ _ _ FG.out ⟨F3.out, F3z.out, F3c.out, Nat.le_trans (length_whichL 1 a b) (by omega), right_i64 (right_meetL a b)⟩ HG.out) HK1.out).mono ?_
  rintro e w12 ⟨rfl, hb12⟩
  have hBz := HB.out.size
  have HB2 := Lib.hid (HB.out.trans (hb12.mono hBz))
  clear HB hBz
  have HB := HB2
  clear HB2
  have HG2 := Lib.hid (HG.out.next hb12)
  clear HG
  have HG := HG2
  clear HG2
  have FG2 := Lib.hid (FG.out.next hb12)
  clear FG
  have FG := FG2
  clear FG2
  have FA2 := Lib.hid (FA.out.next hb12)
  clear FA
  have FA := FA2
  clear FA2
  have FB2 := Lib.hid (FB.out.next hb12)
  clear FB
  have FB := FB2
  clear FB2
  have F32 := Lib.hid (F3.out.next hb12)
  clear F3
  have F3 := F32
  clear F32
  have F42 := Lib.hid (F4.out.next hb12)
  clear F4
  have F4 := F42
  clear F42
  clear hb12
  go_wp2_with fail
  refine (calls_kinds (H.kinds _ _ _ _ _ _ _ _ _ FG.out ⟨F4.out, F4z.out, F4c.out, Nat.le_trans (length_whichL 2 a b) (by omega), right_i64 (right_lessL a b)⟩ HG.out) HK2.out).mono ?_
  rintro e w13 ⟨rfl, hb13⟩
  have hBz := HB.out.size
  have HB2 := Lib.hid (HB.out.trans (hb13.mono hBz))
  clear HB hBz
  have HB := HB2
  clear HB2
  have HG2 := Lib.hid (HG.out.next hb13)
  clear HG
  have HG := HG2
  clear HG2
  have FG2 := Lib.hid (FG.out.next hb13)
  clear FG
  have FG := FG2
  clear FG2
  have FA2 := Lib.hid (FA.out.next hb13)
  clear FA
  have FA := FA2
  clear FA2
  have FB2 := Lib.hid (FB.out.next hb13)
  clear FB
  have FB := FB2
  clear FB2
  have F32 := Lib.hid (F3.out.next hb13)
  clear F3
  have F3 := F32
  clear F32
  have F42 := Lib.hid (F4.out.next hb13)
  clear F4
  have F4 := F42
  clear F42
  clear hb13
  go_wp2_with fail
  refine (calls_kinds (H.kinds _ _ _ _ _ _ _ _ _ FG.out FA.out HG.out) HK3.out).mono ?_
  rintro e w14 ⟨rfl, hb14⟩
  have hBz := HB.out.size
  have HB2 := Lib.hid (HB.out.trans (hb14.mono hBz))
  clear HB hBz
  have HB := HB2
  clear HB2
  have HG2 := Lib.hid (HG.out.next hb14)
  clear HG
  have HG := HG2
  clear HG2
  have FG2 := Lib.hid (FG.out.next hb14)
  clear FG
  have FG := FG2
  clear FG2
  have FA2 := Lib.hid (FA.out.next hb14)
  clear FA
  have FA := FA2
  clear FA2
  have FB2 := Lib.hid (FB.out.next hb14)
  clear FB
  have FB := FB2
  clear FB2
  have F32 := Lib.hid (F3.out.next hb14)
  clear F3
  have F3 := F32
  clear F32
  have F42 := Lib.hid (F4.out.next hb14)
  clear F4
  have F4 := F42
  clear F42
  clear hb14
  clear F3
  clear F4
  clear FA
  clear FB
  clear FG
  clear HG
  clear F3c F3z F4c F4z
  have h3 := Lib.hid (three_arr w14 x0 x1 x2 x3 x4 y0 y1 y2 y3 y4)
  go_wp2
  go_loopw [13] (fun i wr => ∃ k : Nat, k ≤ 5 ∧ i = .int .i64 k ∧ Three w14 x0 x1 x2 x3 x4 y0 y1 y2 y3 y4 wr) (fun i _ => 5 - (intOf i).toNat)
  case atStart => exact ⟨0, by omega, rfl, h3.out⟩
  case round =>
    obtain ⟨k, hk, rfl, ht⟩ := hrel
    have HT := Lib.hid ht
    clear ht
    by_cases hlt : k < 5
    · rcases (show k = 0 ∨ k = 1 ∨ k = 2 ∨ k = 3 ∨ k = 4 by omega) with rfl | rfl | rfl | rfl | rfl
      · obtain ⟨e1, e2, e3⟩ := HT.out.c0
        have hwr : IntKind.i64.wrap (x0 + y0) = x0 + y0 := IntWalk.i64_in _ (by omega)
        go_wp2
        go_quiet (fail)
        go_wp2
        go_roundw
        case rel => exact ⟨1, by omega, rfl, HT.out.drewN _⟩
        case measure => simp [intOf]
      · obtain ⟨e1, e2, e3⟩ := HT.out.c1
        have hwr : IntKind.i64.wrap (x1 + y1) = x1 + y1 := IntWalk.i64_in _ (by omega)
        go_wp2
        go_quiet (fail)
        go_wp2
        go_roundw
        case rel => exact ⟨2, by omega, rfl, HT.out.drewN _⟩
        case measure => simp [intOf]
      · obtain ⟨e1, e2, e3⟩ := HT.out.c2
        have hwr : IntKind.i64.wrap (x2 + y2) = x2 + y2 := IntWalk.i64_in _ (by omega)
        go_wp2
        go_quiet (fail)
        go_wp2
        go_roundw
        case rel => exact ⟨3, by omega, rfl, HT.out.drewN _⟩
        case measure => simp [intOf]
      · obtain ⟨e1, e2, e3⟩ := HT.out.c3
        have hwr : IntKind.i64.wrap (x3 + y3) = x3 + y3 := IntWalk.i64_in _ (by omega)
        go_wp2
        go_quiet (fail)
        go_wp2
        go_roundw
        case rel => exact ⟨4, by omega, rfl, HT.out.drewN _⟩
        case measure => simp [intOf]
      · obtain ⟨e1, e2, e3⟩ := HT.out.c4
        have hwr : IntKind.i64.wrap (x4 + y4) = x4 + y4 := IntWalk.i64_in _ (by omega)
        go_wp2
        go_quiet (fail)
        go_wp2
        go_roundw
        case rel => exact ⟨5, by omega, rfl, HT.out.drewN _⟩
        case measure => simp [intOf]
    · have HBB := Lib.hid (HB.out.trans (HT.out.bel.mono HB.out.size))
      go_wp2
      go_ret
      exact ⟨rfl, HBB.out⟩

theorem graphWhole_walk (H : GraphOk) (A : Option Addr) (n c : Nat) (A1 : Option Addr) (n1 c1 : Nat) (A2 : Option Addr) (n2 c2 : Nat) (g : Gr) (a b : List Int) (w : World) (hr : RG w w.heap.size A n g) (hnil : A = none → c = 0) (hnc : n ≤ c) (hn : n ≤ maxLen) (hr1 : RI w w.heap.size A1 n1 a) (hj1 : ∀ x ∈ a, I64 x) (hnil1 : A1 = none → c1 = 0) (hnc1 : n1 ≤ c1) (hn1 : n1 ≤ maxLen)
    (hr2 : RI w w.heap.size A2 n2 b) (hj2 : ∀ x ∈ b, I64 x) (hnil2 : A2 = none → c2 = 0) (hnc2 : n2 ≤ c2) (hn2 : n2 ≤ maxLen) (hG : Glob w) :
    Calls Tryd.prog 3 #[.slice A n c, .slice A1 n1 c1, .slice A2 n2 c2] w fun e w' => e = .returned (.bool true) ∧ Below w.heap.size w w' := by
  by_cases h60 : 60 < n
  · exact graphWhole_l0 H A n c A1 n1 c1 A2 n2 c2 w h60 hn hG
  by_cases h61 : 60 < n1
  · exact graphWhole_l1 H A n c A1 n1 c1 A2 n2 c2 w h60 h61 hn1 hG
  by_cases h62 : 60 < n2
  · exact graphWhole_l2 H A n c A1 n1 c1 A2 n2 c2 w h60 h61 h62 hn2 hG
  have hg : GAsk w A n c g := ⟨hr, hnil, hnc, by omega⟩
  have ha : LAsk w A1 n1 c1 a := ⟨hr1, hnil1, hnc1, by omega, hj1⟩
  have hb : LAsk w A2 n2 c2 b := ⟨hr2, hnil2, hnc2, by omega, hj2⟩
  have k0 : n ≤ 60 := by omega
  have k1 : n1 ≤ 60 := by omega
  have k2 : n2 ≤ 60 := by omega
  cases hgr : rightG g with
  | false => exact graphWhole_none H A n c A1 n1 c1 A2 n2 c2 g a b w hg k0 ha k1 hb k2 hG hgr
  | true =>
    cases hok : wholeOk g a with
    | false =>
      have hw : wholeL g a = [] := by unfold wholeL; rw [if_neg (by rw [hok]; simp)]
      cases hra : rightB a with
      | false => exact graphWhole_bad H A n c A1 n1 c1 A2 n2 c2 g a b w hg k0 ha k1 hb k2 hG hgr hw hra
      | true =>
        have hex : ¬ ∀ x ∈ a, x < g.length := fun h => by
          unfold wholeOk at hok
          rw [hgr, hra, decide_eq_true h] at hok
          cases hok
        have hp : 0 < n1 := by
          rcases Nat.eq_zero_or_pos n1 with h | h
          · exfalso
            refine hex fun x hx => ?_
            have hnil : a = [] := List.eq_nil_of_length_eq_zero (by rw [hr1.1]; exact h)
            rw [hnil] at hx
            cases hx
          · exact h
        refine graphWhole_far H A n c A1 n1 c1 A2 n2 c2 g a b w hg k0 ha k1 hb k2 hG hgr hw hra hp _ rfl ?_
        refine Int.not_lt.1 fun hlt => hex ?_
        have := all_lt_last hra (by rw [hr1.1]; exact hp) g.length (by rw [hr1.1, hr.len]; exact hlt)
        exact this
    | true =>
      obtain ⟨_, hra, hall⟩ := wholeOk_is hok
      have hz := whole_zero hok
      rw [hr1.1] at hz
      have hk : ∀ l, kVal g l = .agg #[.int .i64 (kc g l 0), .int .i64 (kc g l 1), .int .i64 (kc g l 2), .int .i64 (kc g l 3), .int .i64 (kc g l 4)] := fun _ => rfl
      rcases Nat.eq_zero_or_pos n1 with hp | hp
      · have hz' : hasB (wholeL g a) 0 = false := by rw [hz, decide_eq_false (by omega)]
        cases hrb : rightB b with
        | false => exact graphWhole_noe H A n c A1 n1 c1 A2 n2 c2 g a b w hg k0 ha k1 hb k2 hG hgr hra _ rfl (wholeL_len a) (wholeL_i64 a) (whole_part hok) (whole_whole hok) hz' hp hrb (by rw [hk, kc_wrong hrb, kc_wrong hrb, kc_wrong hrb, kc_wrong hrb, kc_wrong hrb])
        | true => exact graphWhole_ise H A n c A1 n1 c1 A2 n2 c2 g a b w hg k0 ha k1 hb k2 hG hgr hra _ rfl (wholeL_len a) (wholeL_i64 a) (whole_part hok) (whole_whole hok) hz' hp hrb _ _ _ _ _ _ _ _ _ _ (hk _) (hk _) (by rw [hk, kc_parts hgr hra hrb, kc_parts hgr hra hrb, kc_parts hgr hra hrb, kc_parts hgr hra hrb, kc_parts hgr hra hrb])  (by have b0 := fun c => kc_bounds (g := g) (meetL a b) c; have b1 := fun c => kc_bounds (g := g) (lessL a b) c; exact ⟨⟨(b0 0).1, (b0 0).2, (b0 1).1, (b0 1).2, (b0 2).1, (b0 2).2, (b0 3).1, (b0 3).2, b0 4⟩, (b1 0).1, (b1 0).2, (b1 1).1, (b1 1).2, (b1 2).1, (b1 2).2, (b1 3).1, (b1 3).2, b1 4⟩)
      · have hz' : hasB (wholeL g a) 0 = true := by rw [hz, decide_eq_true hp]
        have hlast : a.getD (n1 - 1) 0 < (n : Int) := by
          have hl : n1 - 1 < a.length := by rw [hr1.1]; omega
          have := (hall _ (List.getElem_mem hl)).2
          rw [List.getD, List.getElem?_eq_getElem hl]
          rw [hr.len] at this
          exact this
        cases hrb : rightB b with
        | false => exact graphWhole_nof H A n c A1 n1 c1 A2 n2 c2 g a b w hg k0 ha k1 hb k2 hG hgr hra _ rfl (wholeL_len a) (wholeL_i64 a) (whole_part hok) (whole_whole hok) hz' hp _ rfl hlast hrb (by rw [hk, kc_wrong hrb, kc_wrong hrb, kc_wrong hrb, kc_wrong hrb, kc_wrong hrb])
        | true => exact graphWhole_isf H A n c A1 n1 c1 A2 n2 c2 g a b w hg k0 ha k1 hb k2 hG hgr hra _ rfl (wholeL_len a) (wholeL_i64 a) (whole_part hok) (whole_whole hok) hz' hp _ rfl hlast hrb _ _ _ _ _ _ _ _ _ _ (hk _) (hk _) (by rw [hk, kc_parts hgr hra hrb, kc_parts hgr hra hrb, kc_parts hgr hra hrb, kc_parts hgr hra hrb, kc_parts hgr hra hrb])  (by have b0 := fun c => kc_bounds (g := g) (meetL a b) c; have b1 := fun c => kc_bounds (g := g) (lessL a b) c; exact ⟨⟨(b0 0).1, (b0 0).2, (b0 1).1, (b0 1).2, (b0 2).1, (b0 2).2, (b0 3).1, (b0 3).2, b0 4⟩, (b1 0).1, (b1 0).2, (b1 1).1, (b1 1).2, (b1 2).1, (b1 2).2, (b1 3).1, (b1 3).2, b1 4⟩)

end Go.Proofs.YtokjinihdanhbaaDoor
