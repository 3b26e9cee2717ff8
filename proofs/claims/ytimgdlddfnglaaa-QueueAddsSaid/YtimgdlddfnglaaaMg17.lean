/- The program's small functions of layer 11 (job): Over, Name, next, needs. Written by gen/gen_jobp.py. Words for memory: all blocks but one are as they were. General: nothing of the program stands here. -/
import Derived.LoopTactic
import Derived.Test.YtimgdlddfnglaaaMg05
import Derived.Test.YtimgdlddfnglaaaMg03
import Derived.Test.YtimgdlddfnglaaaMg01
namespace Go.Proofs.Ytimgdlddfnglaaa
open Go.RowKit

set_option maxRecDepth 100000 in
set_option maxHeartbeats 8000000 in
theorem over_any (s : Int) (w : World) : Calls Try.prog 20 #[.int .i64 s] w fun e w' => e = .returned (.bool (overJ s)) ∧ w = w' := by
  by_cases h : 3 ≤ s ∧ s ≤ 6
  · have e1 : Hid (overJ s = true) := Lib.hid (decide_eq_true h)
    rcases (show s = 3 ∨ s = 4 ∨ s = 5 ∨ s = 6 by omega) with rfl | rfl | rfl | rfl
    all_goals
      clear h
      go_enter Try.func20, Try.ntmps20
      go_wp2
      go_ret
      exact ⟨ret_bl e1.out, rfl⟩
  · have e1 : Hid (overJ s = false) := Lib.hid (decide_eq_false h)
    have f3 : (s == 3) = false := by rw [beq_eq_false_iff_ne]; intro e; exact h (by omega)
    have f4 : (s == 4) = false := by rw [beq_eq_false_iff_ne]; intro e; exact h (by omega)
    have f5 : (s == 5) = false := by rw [beq_eq_false_iff_ne]; intro e; exact h (by omega)
    have f6 : (s == 6) = false := by rw [beq_eq_false_iff_ne]; intro e; exact h (by omega)
    clear h
    go_enter Try.func20, Try.ntmps20
    go_wp2
    go_ret
    exact ⟨ret_bl e1.out, rfl⟩
theorem over_b {s : Int} {w : World} {v : Bool} (h : overJ s = v) : Calls Try.prog 20 #[.int .i64 s] w fun e w' => e = .returned (.bool v) ∧ w = w' := by
  subst h; exact over_any s w

theorem ret_str {a b : ByteArray} (h : b = a) : Ending.returned (.string a) = .returned (.string b) := by rw [h]

/-- what happens leads there, if it happens in this state -/
def nextP (s a : Int) : Int × Bool :=
  if a = 1 then (1, decide (s = 0)) else if a = 2 then (0, decide (s = 1)) else if a = 3 then (2, decide (s = 0)) else if a = 4 then (3, decide (s = 2)) else if a = 5 then (4, decide (s = 2)) else if a = 6 then (5, !overJ s) else if a = 7 then (6, decide (s = 0 ∨ s = 1)) else (0, false)
theorem nextP_is {s a : Int} (h1 : 0 ≤ s) (h2 : s ≤ 6) (h3 : 1 ≤ a) (h4 : a ≤ 7) : (nextZ s a < 0 → (nextP s a).2 = false) ∧ (0 ≤ nextZ s a → nextP s a = (nextZ s a, true)) := by
  have hs : s = 0 ∨ s = 1 ∨ s = 2 ∨ s = 3 ∨ s = 4 ∨ s = 5 ∨ s = 6 := by omega
  have ha : a = 1 ∨ a = 2 ∨ a = 3 ∨ a = 4 ∨ a = 5 ∨ a = 6 ∨ a = 7 := by omega
  rcases hs with rfl | rfl | rfl | rfl | rfl | rfl | rfl
  all_goals
    rcases ha with rfl | rfl | rfl | rfl | rfl | rfl | rfl
    all_goals decide
set_option maxRecDepth 100000 in
set_option maxHeartbeats 8000000 in
theorem next_1 (s : Int) (w : World) : Calls Try.prog 58 #[.int .i64 s, .int .i64 1] w fun e w' => e = .returned (.tuple #[.int .i64 (nextP s 1).1, .bool (nextP s 1).2]) ∧ w = w' := by
  by_cases h : s = 0
  · have e1 : Hid (nextP s 1 = (1, true)) := Lib.hid (by rw [h]; rfl)
    have f1 : (s == 0) = true := by rw [beq_iff_eq]; exact h
    clear h
    go_enter Try.func58, Try.ntmps58
    go_wp2
    go_ret2
    exact ⟨by rw [e1.out]; rfl, rfl⟩
  · have e1 : Hid (nextP s 1 = (1, false)) := Lib.hid (by show (1, decide (s = 0)) = ((1 : Int), false); rw [decide_eq_false h])
    have f1 : (s == 0) = false := by rw [beq_eq_false_iff_ne]; exact h
    clear h
    go_enter Try.func58, Try.ntmps58
    go_wp2
    go_ret2
    exact ⟨by rw [e1.out]; rfl, rfl⟩
set_option maxRecDepth 100000 in
set_option maxHeartbeats 8000000 in
theorem next_2 (s : Int) (w : World) : Calls Try.prog 58 #[.int .i64 s, .int .i64 2] w fun e w' => e = .returned (.tuple #[.int .i64 (nextP s 2).1, .bool (nextP s 2).2]) ∧ w = w' := by
  by_cases h : s = 1
  · have e1 : Hid (nextP s 2 = (0, true)) := Lib.hid (by rw [h]; rfl)
    have f1 : (s == 1) = true := by rw [beq_iff_eq]; exact h
    clear h
    go_enter Try.func58, Try.ntmps58
    go_wp2
    go_ret2
    exact ⟨by rw [e1.out]; rfl, rfl⟩
  · have e1 : Hid (nextP s 2 = (0, false)) := Lib.hid (by show (0, decide (s = 1)) = ((0 : Int), false); rw [decide_eq_false h])
    have f1 : (s == 1) = false := by rw [beq_eq_false_iff_ne]; exact h
    clear h
    go_enter Try.func58, Try.ntmps58
    go_wp2
    go_ret2
    exact ⟨by rw [e1.out]; rfl, rfl⟩
set_option maxRecDepth 100000 in
set_option maxHeartbeats 8000000 in
theorem next_3 (s : Int) (w : World) : Calls Try.prog 58 #[.int .i64 s, .int .i64 3] w fun e w' => e = .returned (.tuple #[.int .i64 (nextP s 3).1, .bool (nextP s 3).2]) ∧ w = w' := by
  by_cases h : s = 0
  · have e1 : Hid (nextP s 3 = (2, true)) := Lib.hid (by rw [h]; rfl)
    have f1 : (s == 0) = true := by rw [beq_iff_eq]; exact h
    clear h
    go_enter Try.func58, Try.ntmps58
    go_wp2
    go_ret2
    exact ⟨by rw [e1.out]; rfl, rfl⟩
  · have e1 : Hid (nextP s 3 = (2, false)) := Lib.hid (by show (2, decide (s = 0)) = ((2 : Int), false); rw [decide_eq_false h])
    have f1 : (s == 0) = false := by rw [beq_eq_false_iff_ne]; exact h
    clear h
    go_enter Try.func58, Try.ntmps58
    go_wp2
    go_ret2
    exact ⟨by rw [e1.out]; rfl, rfl⟩
set_option maxRecDepth 100000 in
set_option maxHeartbeats 8000000 in
theorem next_4 (s : Int) (w : World) : Calls Try.prog 58 #[.int .i64 s, .int .i64 4] w fun e w' => e = .returned (.tuple #[.int .i64 (nextP s 4).1, .bool (nextP s 4).2]) ∧ w = w' := by
  by_cases h : s = 2
  · have e1 : Hid (nextP s 4 = (3, true)) := Lib.hid (by rw [h]; rfl)
    have f1 : (s == 2) = true := by rw [beq_iff_eq]; exact h
    clear h
    go_enter Try.func58, Try.ntmps58
    go_wp2
    go_ret2
    exact ⟨by rw [e1.out]; rfl, rfl⟩
  · have e1 : Hid (nextP s 4 = (3, false)) := Lib.hid (by show (3, decide (s = 2)) = ((3 : Int), false); rw [decide_eq_false h])
    have f1 : (s == 2) = false := by rw [beq_eq_false_iff_ne]; exact h
    clear h
    go_enter Try.func58, Try.ntmps58
    go_wp2
    go_ret2
    exact ⟨by rw [e1.out]; rfl, rfl⟩
set_option maxRecDepth 100000 in
set_option maxHeartbeats 8000000 in
theorem next_5 (s : Int) (w : World) : Calls Try.prog 58 #[.int .i64 s, .int .i64 5] w fun e w' => e = .returned (.tuple #[.int .i64 (nextP s 5).1, .bool (nextP s 5).2]) ∧ w = w' := by
  by_cases h : s = 2
  · have e1 : Hid (nextP s 5 = (4, true)) := Lib.hid (by rw [h]; rfl)
    have f1 : (s == 2) = true := by rw [beq_iff_eq]; exact h
    clear h
    go_enter Try.func58, Try.ntmps58
    go_wp2
    go_ret2
    exact ⟨by rw [e1.out]; rfl, rfl⟩
  · have e1 : Hid (nextP s 5 = (4, false)) := Lib.hid (by show (4, decide (s = 2)) = ((4 : Int), false); rw [decide_eq_false h])
    have f1 : (s == 2) = false := by rw [beq_eq_false_iff_ne]; exact h
    clear h
    go_enter Try.func58, Try.ntmps58
    go_wp2
    go_ret2
    exact ⟨by rw [e1.out]; rfl, rfl⟩
set_option maxRecDepth 100000 in
set_option maxHeartbeats 8000000 in
theorem next_6 (s : Int) (w : World) : Calls Try.prog 58 #[.int .i64 s, .int .i64 6] w fun e w' => e = .returned (.tuple #[.int .i64 (nextP s 6).1, .bool (nextP s 6).2]) ∧ w = w' := by
  obtain ⟨v, hv⟩ : ∃ v, overJ s = v := ⟨_, rfl⟩
  have e1 : Hid (nextP s 6 = (5, !v)) := Lib.hid (by show (5, !overJ s) = ((5 : Int), !v); rw [hv])
  have OV := Lib.hid hv
  clear hv
  go_enter Try.func58, Try.ntmps58
  go_wp2_with fail
  refine (over_b OV.out).mono ?_
  rintro e wz ⟨rfl, rfl⟩
  go_wp2
  go_ret2
  exact ⟨by rw [e1.out]; rfl, rfl⟩
set_option maxRecDepth 100000 in
set_option maxHeartbeats 8000000 in
theorem next_7 (s : Int) (w : World) : Calls Try.prog 58 #[.int .i64 s, .int .i64 7] w fun e w' => e = .returned (.tuple #[.int .i64 (nextP s 7).1, .bool (nextP s 7).2]) ∧ w = w' := by
  by_cases h : s = 0
  · have e1 : Hid (nextP s 7 = (6, true)) := Lib.hid (by rw [h]; rfl)
    have f1 : (s == 0) = true := by rw [beq_iff_eq]; exact h
    clear h
    go_enter Try.func58, Try.ntmps58
    go_wp2
    go_ret2
    exact ⟨by rw [e1.out]; rfl, rfl⟩
  by_cases h1 : s = 1
  · have e1 : Hid (nextP s 7 = (6, true)) := Lib.hid (by rw [h1]; rfl)
    have f1 : (s == 0) = false := by rw [beq_eq_false_iff_ne]; exact h
    have f2 : (s == 1) = true := by rw [beq_iff_eq]; exact h1
    clear h h1
    go_enter Try.func58, Try.ntmps58
    go_wp2
    go_ret2
    exact ⟨by rw [e1.out]; rfl, rfl⟩
  have e1 : Hid (nextP s 7 = (6, false)) := Lib.hid (by show (6, decide (s = 0 ∨ s = 1)) = ((6 : Int), false); rw [decide_eq_false (by omega)])
  have f1 : (s == 0) = false := by rw [beq_eq_false_iff_ne]; exact h
  have f2 : (s == 1) = false := by rw [beq_eq_false_iff_ne]; exact h1
  clear h h1
  go_enter Try.func58, Try.ntmps58
  go_wp2
  go_ret2
  exact ⟨by rw [e1.out]; rfl, rfl⟩
theorem next_b {s a x : Int} {v : Bool} {w : World} (h1 : 1 ≤ a) (h2 : a ≤ 7) (h : nextP s a = (x, v)) : Calls Try.prog 58 #[.int .i64 s, .int .i64 a] w fun e w' => e = .returned (.tuple #[.int .i64 x, .bool v]) ∧ w = w' := by
  have ex : x = (nextP s a).1 := by rw [h]
  have ev : v = (nextP s a).2 := by rw [h]
  rw [ex, ev]
  rcases (show a = 1 ∨ a = 2 ∨ a = 3 ∨ a = 4 ∨ a = 5 ∨ a = 6 ∨ a = 7 by omega) with rfl | rfl | rfl | rfl | rfl | rfl | rfl
  · exact next_1 s w
  · exact next_2 s w
  · exact next_3 s w
  · exact next_4 s w
  · exact next_5 s w
  · exact next_6 s w
  · exact next_7 s w

/-- may a job of this number need these -/
def needsB (id : Int) (l : List Int) : Bool := decide (l.length ≤ 16 ∧ ∀ i, i < l.length → NeedAt id l i)
set_option maxRecDepth 100000 in
set_option maxHeartbeats 8000000 in
theorem needs_any (A : Option Addr) (m c : Nat) (l : List Int) (id : Int) (B : Nat) (w : World) (hl : RI w B A m l) (hm : m ≤ maxLen) :
    Calls Try.prog 49 #[.slice A m c, .int .i64 id] w fun e w' => e = .returned (.bool (needsB id l)) ∧ w = w' := by
  have HL := Lib.hid hl
  have HM := Lib.hid hl.1
  unfold maxLen at hm
  clear hl
  by_cases h16 : 16 < m
  · have d1 : decide ((16 : Int) < (m : Int)) = true := by simp; omega
    have e1 : Hid (needsB id l = false) := Lib.hid (decide_eq_false fun h => by have := h.1; have := HM.out; omega)
    go_enter Try.func49, Try.ntmps49
    go_wp2
    go_ret
    exact ⟨ret_bl e1.out, rfl⟩
  · have d1 : decide ((16 : Int) < (m : Int)) = false := by simp; omega
    go_enter Try.func49, Try.ntmps49
    go_wp2
    go_loop [5, 13] (fun lv iv => ∃ (k : Nat) (y : Int), k ≤ m ∧ iv = .int .i64 k ∧ lv = .int .i64 y ∧ ((k = 0 ∧ y = 0) ∨ (0 < k ∧ y = l.getD (k - 1) 0)) ∧ ∀ i, i < k → NeedAt id l i) (fun _ iv => m - (intOf iv).toNat)
    case atStart => exact ⟨0, 0, Nat.zero_le _, rfl, rfl, .inl ⟨rfl, rfl⟩, fun i hi => absurd hi (by omega)⟩
    case round =>
      obtain ⟨k, y, hk, rfl, rfl, hy, hna⟩ := hrel
      have HY := Lib.hid hy
      have HNA := Lib.hid hna
      clear hy hna
      by_cases hlt : k < m
      · obtain ⟨b, off, rfl, _, hc⟩ := HL.out.one hlt
        obtain ⟨x, hx⟩ : ∃ x, l.getD k 0 = x := ⟨_, rfl⟩
        rw [hx] at hc
        have HX := Lib.hid hx
        clear hx
        by_cases x1 : x ≤ y
        · have g1 : decide (x ≤ y) = true := decide_eq_true x1
          have e1 : Hid (needsB id l = false) := Lib.hid (decide_eq_false fun h => by
            have h1 := h.2 k (by rw [HM.out]; exact hlt)
            unfold NeedAt at h1
            rw [HX.out] at h1
            rcases HY.out with ⟨h2, h3⟩ | ⟨h2, h3⟩
            · omega
            · have := h1.2.2 h2; omega)
          clear x1
          go_wp2
          go_ret
          exact ⟨ret_bl e1.out, rfl⟩
        · have g1 : decide (x ≤ y) = false := decide_eq_false x1
          by_cases x2 : id ≤ x
          · have g2 : decide (id ≤ x) = true := decide_eq_true x2
            have e1 : Hid (needsB id l = false) := Lib.hid (decide_eq_false fun h => by
              have h1 := h.2 k (by rw [HM.out]; exact hlt)
              unfold NeedAt at h1
              rw [HX.out] at h1
              omega)
            clear x1 x2
            go_wp2
            go_ret
            exact ⟨ret_bl e1.out, rfl⟩
          · have g2 : decide (id ≤ x) = false := decide_eq_false x2
            have e1 : Hid (∀ i, i < k + 1 → NeedAt id l i) := Lib.hid (fun i hi => by
              by_cases e : i = k
              · subst e
                unfold NeedAt
                rw [HX.out]
                rcases HY.out with ⟨h2, h3⟩ | ⟨h2, h3⟩
                · refine ⟨by omega, by omega, fun h => by omega⟩
                · have h4 := (HNA.out (i - 1) (by omega)).1
                  exact ⟨by omega, by omega, fun _ => by omega⟩
              · exact HNA.out i (by omega))
            clear x1 x2
            go_wp2
            go_round
            case rel => exact ⟨k + 1, x, by omega, by go_num, rfl, .inr ⟨by omega, HX.out.symm⟩, e1.out⟩
            case measure => simp [intOf]; omega
      · have hkm : k = m := by omega
        have e1 : Hid (needsB id l = true) := Lib.hid (decide_eq_true ⟨by rw [HM.out]; omega, fun i hi => HNA.out i (by rw [HM.out] at hi; omega)⟩)
        clear HY HNA
        go_wp2
        go_ret
        exact ⟨ret_bl e1.out, rfl⟩
theorem needs_b {A : Option Addr} {m c : Nat} {l : List Int} {id : Int} {B : Nat} {w : World} {v : Bool} (hl : RI w B A m l) (hm : m ≤ maxLen) (h : needsB id l = v) :
    Calls Try.prog 49 #[.slice A m c, .int .i64 id] w fun e w' => e = .returned (.bool v) ∧ w = w' := by
  subst h; exact needs_any A m c l id B w hl hm

end Go.Proofs.Ytimgdlddfnglaaa

namespace Go.Proofs.Ytimgdlddfnglaaa
open Go.RowKit

/-- all blocks but g are as they were -/
structure But (g : Nat) (w w' : World) : Prop where
  os : w'.os = w.os
  tape : w'.tape = w.tape
  output : w'.output = w.output
  size : w.heap.size ≤ w'.heap.size
  block : ∀ b, b < w.heap.size → b ≠ g → w'.heap[b]? = w.heap[b]?
section
variable {g : Nat} {w w1 w' : World}
theorem But.refl (g : Nat) (w : World) : But g w w := ⟨rfl, rfl, rfl, Nat.le_refl _, fun _ _ _ => rfl⟩
theorem But.trans (h : But g w w1) (k : But g w1 w') : But g w w' :=
  ⟨k.os.trans h.os, k.tape.trans h.tape, k.output.trans h.output, Nat.le_trans h.size k.size, fun b h1 h2 => (k.block b (Nat.lt_of_lt_of_le h1 h.size) h2).trans (h.block b h1 h2)⟩
theorem But.of (g : Nat) (h : Below w.heap.size w w') : But g w w' := ⟨h.os, h.tape, h.output, h.size, fun b h1 _ => h.block b h1⟩
theorem But.next (h : But g w w1) (k : Below w1.heap.size w1 w') : But g w w' := h.trans (But.of g k)
theorem But.below {B : Nat} (h : But g w w') (hB : B ≤ g) (hg : g < w.heap.size) : Below B w w' := ⟨h.os, h.tape, h.output, h.size, fun b hb => h.block b (by omega) (by omega)⟩
theorem But.set (h : But g w w1) (j : Nat) (u : Value) : But g w (w1.setCell ⟨g, j, none⟩ u) :=
  h.trans ⟨rfl, rfl, rfl, by simp [World.setCell], fun b _ hb => Below.heap_setCell _ _ _ _ hb⟩
theorem But.drewN (h : But g w w1) (q : Nat) : But g w (w1.drewN q) := h.next (bel_drew w1 q)
end

end Go.Proofs.Ytimgdlddfnglaaa
