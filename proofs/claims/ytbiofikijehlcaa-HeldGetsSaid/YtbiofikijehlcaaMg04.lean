/- What the program's functions of layer 10 (held) answer, as one list of contracts: the statements' walks lean on it alone. Written by gen/gen_heldface.py. The fixed answers that the statements of layer 10 ask for first, as a walk over the contracts. Written by gen/gen_heldface.py. The reference's small questions of layer 10: do two spans meet, have two sets a number in common, may a holding be, do two holdings meet. Written by gen/gen_heldref1.py. The reference's May and clash of layer 10. Written by gen/gen_heldref2.py. -/
import Derived.Test.YtbiofikijehlcaaMg02
import Derived.Test.YtbiofikijehlcaaMg03
import Derived.LoopTactic
import Derived.Deep.QuietTactic
namespace Go.Proofs.Ytbiofikijehlcaa
open Go.RowKit

structure HeldOk : Prop where
  right : ∀ (A : Option Addr) (n c : Nat) (l : Tb) (w : World), TAsk w A n c l → FewT l → Calls Try.prog 18 #[.slice A n c] w (fun e w' => e = .returned (.bool (rightT l)) ∧ Below w.heap.size w w')
  over : ∀ (A : Option Addr) (n c : Nat) (l : Tb) (z : Int) (w : World), TAsk w A n c l → FewT l → Calls Try.prog 9 #[.slice A n c, .int .i64 z] w (TTPost (restT l z) (goneT l z) w)
  busy : ∀ (A : Option Addr) (n c : Nat) (l : Tb) (a b : Int) (w : World), TAsk w A n c l → FewT l → Calls Try.prog 12 #[.slice A n c, .int .i64 a, .int .i64 b] w (IPost (busyT l a b) w)
  ends : ∀ (A : Option Addr) (n c : Nat) (l : Tb) (z : Int) (w : World), TAsk w A n c l → FewT l → Calls Try.prog 16 #[.slice A n c, .int .i64 z] w (IPost (endsT l z) w)
  get : ∀ (A : Option Addr) (n c : Nat) (l : Tb) (id : Int) (w : World), TAsk w A n c l → FewT l → Calls Try.prog 22 #[.slice A n c, .int .i64 id] w (GPost (getT l id) (gotT l id) w)
  add : ∀ (A : Option Addr) (n c : Nat) (l : Tb) (A2 : Option Addr) (m c2 : Nat) (h : Hd) (w : World), TAsk w A n c l → FewT l → HAsk w A2 m c2 h → m ≤ 100 → Calls Try.prog 21 #[.slice A n c, .agg #[.int .i64 h.id, .slice A2 m c2, .int .i64 h.frm, .int .i64 h.to]] w (TEPost (addT l h) (addE l h) w)
  drop : ∀ (A : Option Addr) (n c : Nat) (l : Tb) (id : Int) (w : World), TAsk w A n c l → FewT l → dropE l id = 0 → Calls Try.prog 25 #[.slice A n c, .int .i64 id] w (DPost (dropT l id) (getT l id) w)
  cut : ∀ (A : Option Addr) (n c : Nat) (l : Tb) (id z : Int) (w : World), TAsk w A n c l → FewT l → cutE l id z = 0 → Calls Try.prog 27 #[.slice A n c, .int .i64 id, .int .i64 z] w (TEPost (cutT l id z) 0 w)
  cutNo : ∀ (A : Option Addr) (n c : Nat) (l : Tb) (id z : Int) (w : World), TAsk w A n c l → FewT l → cutE l id z ≠ 0 → Calls Try.prog 27 #[.slice A n c, .int .i64 id, .int .i64 z] w (CPost (cutE l id z) w)

section
variable (H : HeldOk) {A : Option Addr} {n c : Nat} {A2 : Option Addr} {m c2 : Nat} {l : Tb} {h : Hd} {w : World}
include H
theorem h10_add (hl : TAsk w A n c l) (hf : FewT l) (hh : HAsk w A2 m c2 h) (hm : m ≤ 100) {l' : Tb} {er : Int} (e1 : addT l h = l') (e2 : addE l h = er) :
    Calls Try.prog 21 #[.slice A n c, .agg #[.int .i64 h.id, .slice A2 m c2, .int .i64 h.frm, .int .i64 h.to]] w (TEPost l' er w) := by
  subst e1 e2; exact H.add A n c l A2 m c2 h w hl hf hh hm
theorem h10_right (hl : TAsk w A n c l) (hf : FewT l) {v : Bool} (e : rightT l = v) : Calls Try.prog 18 #[.slice A n c] w fun e w' => e = .returned (.bool v) ∧ Below w.heap.size w w' := by
  subst e; exact H.right A n c l w hl hf
theorem h10_over (hl : TAsk w A n c l) (hf : FewT l) {z : Int} {a b : Tb} (e1 : restT l z = a) (e2 : goneT l z = b) : Calls Try.prog 9 #[.slice A n c, .int .i64 z] w (TTPost a b w) := by
  subst e1 e2; exact H.over A n c l z w hl hf
theorem h10_busy (hl : TAsk w A n c l) (hf : FewT l) {a b : Int} {r : List Int} (e : busyT l a b = r) : Calls Try.prog 12 #[.slice A n c, .int .i64 a, .int .i64 b] w (IPost r w) := by
  subst e; exact H.busy A n c l a b w hl hf
theorem h10_ends (hl : TAsk w A n c l) (hf : FewT l) {z : Int} {r : List Int} (e : endsT l z = r) : Calls Try.prog 16 #[.slice A n c, .int .i64 z] w (IPost r w) := by
  subst e; exact H.ends A n c l z w hl hf
theorem h10_get (hl : TAsk w A n c l) (hf : FewT l) {id : Int} {x : Hd} {b : Bool} (e1 : getT l id = x) (e2 : gotT l id = b) : Calls Try.prog 22 #[.slice A n c, .int .i64 id] w (GPost x b w) := by
  subst e1 e2; exact H.get A n c l id w hl hf
theorem h10_drop (hl : TAsk w A n c l) (hf : FewT l) {id : Int} {l' : Tb} {x : Hd} (h0 : dropE l id = 0) (e1 : dropT l id = l') (e2 : getT l id = x) : Calls Try.prog 25 #[.slice A n c, .int .i64 id] w (DPost l' x w) := by
  subst e1 e2; exact H.drop A n c l id w hl hf h0
theorem h10_cut (hl : TAsk w A n c l) (hf : FewT l) {id z : Int} {l' : Tb} (h0 : cutE l id z = 0) (e1 : cutT l id z = l') : Calls Try.prog 27 #[.slice A n c, .int .i64 id, .int .i64 z] w (TEPost l' 0 w) := by
  subst e1; exact H.cut A n c l id z w hl hf h0
theorem h10_cutNo (hl : TAsk w A n c l) (hf : FewT l) {id z er : Int} (h0 : er ≠ 0) (e : cutE l id z = er) : Calls Try.prog 27 #[.slice A n c, .int .i64 id, .int .i64 z] w (CPost er w) := by
  subst e; exact H.cutNo A n c l id z w hl hf h0
end
section
variable {w : World}
/-- a list that a literal lays -/
theorem ri_lit (w : World) (xs : List Int) (cs : Array Value) (hc : cs.toList = xs.map (Value.int .i64)) : RI (w.alloc (.cells cs 3)) (w.alloc (.cells cs 3)).heap.size (some ⟨w.heap.size, 0, none⟩) xs.length xs := by
  refine ⟨rfl, fun _ => ⟨w.heap.size, 0, rfl, by simp, fun j hj => ?_⟩⟩
  rw [cell_of_row _ w.heap.size (0 + j) _ _ (0, 0) (heap_alloc_new w _), Nat.zero_add, ← Array.getElem?_toList, hc, List.getElem?_map, List.getElem?_eq_getElem hj, List.getD, List.getElem?_eq_getElem hj]
  rfl
theorem nil_ask (w : World) : TAsk w none 0 0 [] := ⟨RT.nil, fun _ => rfl, Nat.le_refl _, Nat.zero_le _⟩
/-- a table that was answered may be asked about -/
theorem ans_ask {A : Option Addr} {c : Nat} {l : Tb} (h : RT w w.heap.size A l.length l) (h1 : A = none → c = 0) (h2 : l.length ≤ c) (h3 : l.length ≤ maxLen) : TAsk w A l.length c l := ⟨h, h1, h2, h3⟩
/-- 30 holdings of 60 things -/
def shortB (l : Tb) : Prop := l.length ≤ 30 ∧ ∀ h ∈ l, h.things.length ≤ 60
theorem short_few {l : Tb} (h : shortB l) : FewT l := ⟨by have := h.1; omega, fun x hx => by have := h.2 x hx; omega⟩
end

end Go.Proofs.Ytbiofikijehlcaa

namespace Go.Proofs.Ytbiofikijehlcaa
open Go.RowKit

def hA1 : Hd := ⟨1, [2, 3], 0, 5⟩
def hA2 : Hd := ⟨2, [3], 4, 9⟩
def hA3 : Hd := ⟨2, [3], 5, 9⟩
theorem aw_1 : addT [] hA1 = [hA1] ∧ addE [] hA1 = 0 := ⟨by rfl, by decide +kernel⟩
theorem aw_2 : addE [hA1] hA2 = 5 := by decide +kernel
theorem aw_2' : addT [hA1] hA2 = [hA1] := by unfold addT; rw [aw_2]; rfl
theorem aw_3 : addE [hA1] hA3 = 0 := by decide +kernel
theorem aw_3' : addT [hA1] hA3 = [hA1, hA3] := by unfold addT; rw [aw_3]; rfl
theorem aw_4 : busyT [hA1, hA3] 0 9 = [2, 3] := by decide +kernel
theorem aw_5 : endsT [hA1, hA3] 0 = [5, 9] := by decide +kernel
theorem aw_few1 : FewT [hA1] := ⟨by decide, fun h hh => by simp at hh; subst hh; decide⟩
theorem aw_few2 : FewT [hA1, hA3] := ⟨by decide, fun h hh => by simp at hh; rcases hh with rfl | rfl <;> decide⟩
theorem aw_i (h : Hd) (h1 : I64 h.id) (h2 : I64 h.frm) (h3 : I64 h.to) (h4 : ∀ n ∈ h.things, I64 n) : I64 h.id ∧ I64 h.frm ∧ I64 h.to ∧ ∀ n ∈ h.things, I64 n := ⟨h1, h2, h3, h4⟩
theorem aw_ask {w : World} {A : Option Addr} {h : Hd} (hr : RI w w.heap.size A h.things.length h.things) (hA : A ≠ none) (hl : h.things.length ≤ 100) (hi : I64 h.id ∧ I64 h.frm ∧ I64 h.to ∧ ∀ n ∈ h.things, I64 n) : HAsk w A h.things.length h.things.length h :=
  ⟨hr, fun e => absurd e hA, Nat.le_refl _, by unfold maxLen; omega, hi⟩
theorem aw_ii (h : Hd) (h' : h = hA1 ∨ h = hA2 ∨ h = hA3) : I64 h.id ∧ I64 h.frm ∧ I64 h.to ∧ ∀ n ∈ h.things, I64 n := by
  rcases h' with rfl | rfl | rfl
  all_goals
    unfold I64
    simp [hA1, hA2, hA3]

theorem aw_few0 : FewT [] := ⟨by decide, fun h hh => by cases hh⟩
set_option maxRecDepth 100000 in
set_option maxHeartbeats 8000000 in
theorem awake10_any (H : HeldOk) (w : World) : Calls Try.prog 7 #[] w fun e w' => e = .returned (.bool true) ∧ Below w.heap.size w w' := by
  have HB := Lib.hid (Below.refl w.heap.size w)
  go_enter Try.func7, Try.ntmps7
  go_wp2_with fail
  have hb := Below.alloc (Below.refl w.heap.size w) (Nat.le_refl _) (.cells #[.int .i64 2, .int .i64 3] 3)
  have G1q := Lib.hid (aw_ask (h := hA1) (ri_lit w [2, 3] _ rfl) (by simp) (by decide) (aw_ii _ (.inl rfl)))
  have HBq := Lib.hid (HB.out.trans (hb.mono HB.out.size))
  clear HB
  have HB := HBq
  clear HBq
  clear hb
  have G1 := G1q
  clear G1q
  have FN := Lib.hid (nil_ask _ : TAsk (w.alloc (.cells #[.int .i64 2, .int .i64 3] 3)) none 0 0 [])
  go_wp2_with fail
  refine (h10_add H (h := hA1) FN.out aw_few0 G1.out (by decide) aw_1.1 aw_1.2).mono ?_
  rintro e w1 ⟨⟨A1, c1, rfl, hr1, hn1, hc1⟩, hb⟩
  have HBq := Lib.hid (HB.out.trans (hb.mono HB.out.size))
  clear HB
  have HB := HBq
  clear HBq
  have G1q := Lib.hid (G1.out.next hb)
  clear G1
  have G1 := G1q
  clear G1q
  clear hb
  have T1 := Lib.hid (ans_ask hr1 hn1 hc1 (by decide))
  clear hr1 hn1 hc1 FN
  go_wp2_with fail
  have hb := Below.alloc (Below.refl w1.heap.size w1) (Nat.le_refl _) (.cells #[.int .i64 3] 3)
  have G2q := Lib.hid (aw_ask (h := hA2) (ri_lit w1 [3] _ rfl) (by simp) (by decide) (aw_ii _ (.inr (.inl rfl))))
  have HBq := Lib.hid (HB.out.trans (hb.mono HB.out.size))
  clear HB
  have HB := HBq
  clear HBq
  have G1q := Lib.hid (G1.out.next hb)
  clear G1
  have G1 := G1q
  clear G1q
  have T1q := Lib.hid (T1.out.next hb)
  clear T1
  have T1 := T1q
  clear T1q
  clear hb
  have G2 := G2q
  clear G2q
  go_wp2_with fail
  refine (h10_add H (h := hA2) T1.out aw_few1 G2.out (by decide) aw_2' aw_2).mono ?_
  rintro e w2 ⟨⟨A2, c2, rfl, hr2, hn2, hc2⟩, hb⟩
  have HBq := Lib.hid (HB.out.trans (hb.mono HB.out.size))
  clear HB
  have HB := HBq
  clear HBq
  have G1q := Lib.hid (G1.out.next hb)
  clear G1
  have G1 := G1q
  clear G1q
  have T1q := Lib.hid (T1.out.next hb)
  clear T1
  have T1 := T1q
  clear T1q
  have G2q := Lib.hid (G2.out.next hb)
  clear G2
  have G2 := G2q
  clear G2q
  clear hb
  clear hr2 hn2 hc2
  go_wp2_with fail
  have hb := Below.alloc (Below.refl w2.heap.size w2) (Nat.le_refl _) (.cells #[.int .i64 3] 3)
  have G3q := Lib.hid (aw_ask (h := hA3) (ri_lit w2 [3] _ rfl) (by simp) (by decide) (aw_ii _ (.inr (.inr rfl))))
  have HBq := Lib.hid (HB.out.trans (hb.mono HB.out.size))
  clear HB
  have HB := HBq
  clear HBq
  have G1q := Lib.hid (G1.out.next hb)
  clear G1
  have G1 := G1q
  clear G1q
  have T1q := Lib.hid (T1.out.next hb)
  clear T1
  have T1 := T1q
  clear T1q
  have G2q := Lib.hid (G2.out.next hb)
  clear G2
  have G2 := G2q
  clear G2q
  clear hb
  have G3 := G3q
  clear G3q
  go_wp2_with fail
  refine (h10_add H (h := hA3) T1.out aw_few1 G3.out (by decide) aw_3' aw_3).mono ?_
  rintro e w3 ⟨⟨A3, c3, rfl, hr3, hn3, hc3⟩, hb⟩
  have HBq := Lib.hid (HB.out.trans (hb.mono HB.out.size))
  clear HB
  have HB := HBq
  clear HBq
  have G1q := Lib.hid (G1.out.next hb)
  clear G1
  have G1 := G1q
  clear G1q
  have T1q := Lib.hid (T1.out.next hb)
  clear T1
  have T1 := T1q
  clear T1q
  have G2q := Lib.hid (G2.out.next hb)
  clear G2
  have G2 := G2q
  clear G2q
  have G3q := Lib.hid (G3.out.next hb)
  clear G3
  have G3 := G3q
  clear G3q
  clear hb
  have T3 := Lib.hid (ans_ask hr3 hn3 hc3 (by decide))
  clear hr3 hn3 hc3
  go_wp2_with fail
  refine (h10_busy H T3.out aw_few2 aw_4).mono ?_
  rintro e w4 ⟨⟨A4, c4, rfl, _, _, _⟩, hb⟩
  have HBq := Lib.hid (HB.out.trans (hb.mono HB.out.size))
  clear HB
  have HB := HBq
  clear HBq
  have G1q := Lib.hid (G1.out.next hb)
  clear G1
  have G1 := G1q
  clear G1q
  have T1q := Lib.hid (T1.out.next hb)
  clear T1
  have T1 := T1q
  clear T1q
  have G2q := Lib.hid (G2.out.next hb)
  clear G2
  have G2 := G2q
  clear G2q
  have G3q := Lib.hid (G3.out.next hb)
  clear G3
  have G3 := G3q
  clear G3q
  have T3q := Lib.hid (T3.out.next hb)
  clear T3
  have T3 := T3q
  clear T3q
  clear hb
  go_wp2_with fail
  refine (h10_ends H T3.out aw_few2 aw_5).mono ?_
  rintro e w5 ⟨⟨A5, c5, rfl, _, _, _⟩, hb⟩
  have HBq := Lib.hid (HB.out.trans (hb.mono HB.out.size))
  clear HB
  have HB := HBq
  clear HBq
  have G1q := Lib.hid (G1.out.next hb)
  clear G1
  have G1 := G1q
  clear G1q
  have T1q := Lib.hid (T1.out.next hb)
  clear T1
  have T1 := T1q
  clear T1q
  have G2q := Lib.hid (G2.out.next hb)
  clear G2
  have G2 := G2q
  clear G2q
  have G3q := Lib.hid (G3.out.next hb)
  clear G3
  have G3 := G3q
  clear G3q
  have T3q := Lib.hid (T3.out.next hb)
  clear T3
  have T3 := T3q
  clear T3q
  clear hb
  go_wp2
  go_ret
  exact ⟨rfl, HB.out⟩

end Go.Proofs.Ytbiofikijehlcaa

namespace Go.Proofs.Ytbiofikijehlcaa
open Go.RowKit

set_option maxRecDepth 100000 in
set_option maxHeartbeats 8000000 in
theorem refMeets_any (a b c d : Int) (w : World) : Calls Try.prog 31 #[.int .i64 a, .int .i64 b, .int .i64 c, .int .i64 d] w fun e w' => e = .returned (.bool (meetsZ a b c d)) ∧ w = w' := by
  by_cases h1 : a < c
  · by_cases h2 : c < b
    · by_cases h3 : c < d
      · have e : meetsZ a b c d = true := decide_eq_true (by omega)
        rw [e]
        clear e
        have g1 : decide (a < c) = true := decide_eq_true (by omega)
        have g2 : decide (a ≤ c) = true := decide_eq_true (by omega)
        have g0 : decide (c ≤ c) = true := decide_eq_true (by omega)
        have g3 : decide (c < b) = true := decide_eq_true (by omega)
        have g4 : decide (c < d) = true := decide_eq_true (by omega)
        go_enter Try.func31, Try.ntmps31
        go_wp2
        go_ret
        exact ⟨rfl, rfl⟩
      · have e : meetsZ a b c d = false := decide_eq_false (by omega)
        rw [e]
        clear e
        have g1 : decide (a < c) = true := decide_eq_true (by omega)
        have g2 : decide (a ≤ c) = true := decide_eq_true (by omega)
        have g0 : decide (c ≤ c) = true := decide_eq_true (by omega)
        have g3 : decide (c < b) = true := decide_eq_true (by omega)
        have g4 : decide (c < d) = false := decide_eq_false (by omega)
        go_enter Try.func31, Try.ntmps31
        go_wp2
        go_ret
        exact ⟨rfl, rfl⟩
    · have e : meetsZ a b c d = false := decide_eq_false (by omega)
      rw [e]
      clear e
      have g1 : decide (a < c) = true := decide_eq_true (by omega)
      have g2 : decide (a ≤ c) = true := decide_eq_true (by omega)
      have g0 : decide (c ≤ c) = true := decide_eq_true (by omega)
      have g3 : decide (c < b) = false := decide_eq_false (by omega)
      go_enter Try.func31, Try.ntmps31
      go_wp2
      go_ret
      exact ⟨rfl, rfl⟩
  · by_cases h2 : a < b
    · by_cases h3 : a < d
      · have e : meetsZ a b c d = true := decide_eq_true (by omega)
        rw [e]
        clear e
        have g1 : decide (a < c) = false := decide_eq_false (by omega)
        have g2 : decide (c ≤ a) = true := decide_eq_true (by omega)
        have g0 : decide (a ≤ a) = true := decide_eq_true (by omega)
        have g3 : decide (a < b) = true := decide_eq_true (by omega)
        have g4 : decide (a < d) = true := decide_eq_true (by omega)
        go_enter Try.func31, Try.ntmps31
        go_wp2
        go_ret
        exact ⟨rfl, rfl⟩
      · have e : meetsZ a b c d = false := decide_eq_false (by omega)
        rw [e]
        clear e
        have g1 : decide (a < c) = false := decide_eq_false (by omega)
        have g2 : decide (c ≤ a) = true := decide_eq_true (by omega)
        have g0 : decide (a ≤ a) = true := decide_eq_true (by omega)
        have g3 : decide (a < b) = true := decide_eq_true (by omega)
        have g4 : decide (a < d) = false := decide_eq_false (by omega)
        go_enter Try.func31, Try.ntmps31
        go_wp2
        go_ret
        exact ⟨rfl, rfl⟩
    · have e : meetsZ a b c d = false := decide_eq_false (by omega)
      rw [e]
      clear e
      have g1 : decide (a < c) = false := decide_eq_false (by omega)
      have g2 : decide (c ≤ a) = true := decide_eq_true (by omega)
      have g0 : decide (a ≤ a) = true := decide_eq_true (by omega)
      have g3 : decide (a < b) = false := decide_eq_false (by omega)
      go_enter Try.func31, Try.ntmps31
      go_wp2
      go_ret
      exact ⟨rfl, rfl⟩
theorem refMeets_b {a b c d : Int} {w : World} {v : Bool} (h : meetsZ a b c d = v) : Calls Try.prog 31 #[.int .i64 a, .int .i64 b, .int .i64 c, .int .i64 d] w fun e w' => e = .returned (.bool v) ∧ Below w.heap.size w w' := by
  subst h
  exact (refMeets_any a b c d w).mono fun _ _ ⟨h1, h2⟩ => ⟨h1, by rw [← h2]; exact Below.refl _ _⟩

/-! Touch: two rows by rising numbers, walked side by side -/
theorem rise_lt {l : List Int} (h : rightB l = true) : ∀ {i j : Nat}, i < j → j < l.length → l.getD i 0 < l.getD j 0 := by
  induction l with
  | nil => intro i j _ h2; simp at h2
  | cons x r ih =>
    intro i j h1 h2
    obtain ⟨j', rfl⟩ : ∃ j', j = j' + 1 := ⟨j - 1, by omega⟩
    have hj : j' < r.length := by simpa using h2
    cases i with
    | zero =>
      rw [List.getD_cons_zero, List.getD_cons_succ]
      refine right_below h _ ?_
      rw [List.getD, List.getElem?_eq_getElem hj]
      exact List.getElem_mem hj
    | succ i =>
      rw [List.getD_cons_succ, List.getD_cons_succ]
      exact ih (right_tail h) (by omega) hj
theorem getD_mem {l : List Int} {i : Nat} (h : i < l.length) : l.getD i 0 ∈ l := by
  rw [List.getD, List.getElem?_eq_getElem h]; exact List.getElem_mem h
theorem mem_getD {l : List Int} {x : Int} (h : x ∈ l) : ∃ i, i < l.length ∧ l.getD i 0 = x := by
  obtain ⟨i, hi, e⟩ := List.getElem_of_mem h
  exact ⟨i, hi, by rw [List.getD, List.getElem?_eq_getElem hi]; exact e⟩
/-- nothing of the first i of one is in the other, and the other way round -/
structure NoneYet (a b : List Int) (i k : Nat) : Prop where
  left : ∀ j, j < i → a.getD j 0 ∉ b
  right : ∀ j, j < k → b.getD j 0 ∉ a
theorem NoneYet.go1 {a b : List Int} {i k : Nat} (_ : rightB a = true) (hb : rightB b = true) (h : NoneYet a b i k) (hi : i < a.length) (hk : k < b.length) (hlt : a.getD i 0 < b.getD k 0) : NoneYet a b (i + 1) k := by
  refine ⟨fun j hj => ?_, h.right⟩
  by_cases hji : j = i
  · subst hji
    intro hm
    obtain ⟨q, hq, e⟩ := mem_getD hm
    rcases Nat.lt_trichotomy q k with hqk | hqk | hqk
    · exact h.right q hqk (by rw [e]; exact getD_mem hi)
    · subst hqk; omega
    · have := rise_lt hb hqk hq; omega
  · exact h.left j (by omega)
theorem NoneYet.go2 {a b : List Int} {i k : Nat} (ha : rightB a = true) (_ : rightB b = true) (h : NoneYet a b i k) (hi : i < a.length) (hk : k < b.length) (hlt : b.getD k 0 < a.getD i 0) : NoneYet a b i (k + 1) := by
  refine ⟨h.left, fun j hj => ?_⟩
  by_cases hji : j = k
  · subst hji
    intro hm
    obtain ⟨q, hq, e⟩ := mem_getD hm
    rcases Nat.lt_trichotomy q i with hqk | hqk | hqk
    · exact h.left q hqk (by rw [e]; exact getD_mem hk)
    · subst hqk; omega
    · have := rise_lt ha hqk hq; omega
  · exact h.right j (by omega)
theorem NoneYet.done {a b : List Int} {i k : Nat} (h : NoneYet a b i k) (he : a.length ≤ i ∨ b.length ≤ k) : touchB a b = false := by
  refine Bool.eq_false_iff.2 fun ht => ?_
  obtain ⟨n, h1, h2⟩ := touch_iff.1 ht
  rcases he with he | he
  · obtain ⟨q, hq, e⟩ := mem_getD h1
    exact h.left q (by omega) (by rw [e]; exact h2)
  · obtain ⟨q, hq, e⟩ := mem_getD h2
    exact h.right q (by omega) (by rw [e]; exact h1)
set_option maxRecDepth 100000 in
set_option maxHeartbeats 8000000 in
theorem refTouch_any (A : Option Addr) (n c : Nat) (A2 : Option Addr) (n2 c2 : Nat) (a b : List Int) (w : World) (ha : RI w w.heap.size A n a) (hb : RI w w.heap.size A2 n2 b) (hn : n ≤ maxLen) (hn2 : n2 ≤ maxLen) (hra : rightB a = true) (hrb : rightB b = true) :
    Calls Try.prog 59 #[.slice A n c, .slice A2 n2 c2] w fun e w' => e = .returned (.bool (touchB a b)) ∧ Below w.heap.size w w' := by
  have HA := Lib.hid ha
  have HB := Lib.hid hb
  have LA := Lib.hid ha.1
  have LB := Lib.hid hb.1
  have RA := Lib.hid hra
  have RB := Lib.hid hrb
  obtain ⟨v, hv⟩ : ∃ v, touchB a b = v := ⟨_, rfl⟩
  have HV := Lib.hid hv
  rw [hv]
  unfold maxLen at *
  clear ha hb hra hrb hv
  go_enter Try.func59, Try.ntmps59
  go_wp2
  go_loopw [5, 6] (fun s5 s6 wr => ∃ i k q : Nat, s5 = .int .i64 i ∧ s6 = .int .i64 k ∧ i ≤ n ∧ k ≤ n2 ∧ NoneYet a b i k ∧ wr = w.drewN q) (fun s5 s6 _ => (n - (intOf s5).toNat) + (n2 - (intOf s6).toNat))
  case atStart => exact ⟨0, 0, 0, rfl, rfl, Nat.zero_le _, Nat.zero_le _, ⟨fun j hj => absurd hj (by omega), fun j hj => absurd hj (by omega)⟩, rfl⟩
  case round =>
    obtain ⟨i, k, q, rfl, rfl, hi, hk, hny, rfl⟩ := hrel
    have HNY := Lib.hid hny
    clear hny
    by_cases h1 : i < n
    · by_cases h2 : k < n2
      · obtain ⟨b1, o1, rfl, _, hc1⟩ := HA.out.one h1
        obtain ⟨b2, o2, rfl, _, hc2⟩ := HB.out.one h2
        have hla : i < a.length := by rw [LA.out]; exact h1
        have hlb : k < b.length := by rw [LB.out]; exact h2
        obtain ⟨x, hx⟩ : ∃ x, a.getD i 0 = x := ⟨_, rfl⟩
        obtain ⟨y, hy⟩ : ∃ y, b.getD k 0 = y := ⟨_, rfl⟩
        have HX := Lib.hid hx
        have HY := Lib.hid hy
        have HLA := Lib.hid hla
        have HLB := Lib.hid hlb
        rw [hx] at hc1
        rw [hy] at hc2
        clear hx hy hla hlb
        by_cases h3 : x = y
        · have hT : Hid (v = true) := Lib.hid (by
            rw [← HV.out]
            exact touch_iff.2 ⟨x, by rw [← HX.out]; exact getD_mem HLA.out, by rw [h3, ← HY.out]; exact getD_mem HLB.out⟩)
          have d3 : (x == y) = true := by simpa using h3
          subst h3
          go_wp2
          go_quiet (fail)
          go_wp2
          go_ret
          exact ⟨by rw [hT.out]; rfl, bel_more (bel_drew w q) _⟩
        · have d3 : (x == y) = false := by simpa using h3
          by_cases h4 : x < y
          · have d4 : decide (x < y) = true := decide_eq_true h4
            have HN : Hid (NoneYet a b (i + 1) k) := Lib.hid (HNY.out.go1 RA.out RB.out HLA.out HLB.out (by rw [HX.out, HY.out]; exact h4))
            clear h3 h4
            go_wp2
            go_quiet (fail)
            go_wp2
            go_quiet (fail)
            go_wp2
            go_roundw
            case rel => exact ⟨i + 1, k, _, by go_num, rfl, by omega, hk, HN.out, rfl⟩
            case measure => simp [intOf]; omega
          · have d4 : decide (x < y) = false := decide_eq_false h4
            have HN : Hid (NoneYet a b i (k + 1)) := Lib.hid (HNY.out.go2 RA.out RB.out HLA.out HLB.out (by rw [HX.out, HY.out]; omega))
            clear h3 h4
            go_wp2
            go_quiet (fail)
            go_wp2
            go_quiet (fail)
            go_wp2
            go_roundw
            case rel => exact ⟨i, k + 1, _, rfl, by go_num, hi, by omega, HN.out, rfl⟩
            case measure => simp [intOf]; omega
      · have hT : Hid (v = false) := Lib.hid (by rw [← HV.out]; exact HNY.out.done (.inr (by rw [LB.out]; omega)))
        have d2 : decide (k < n2) = false := decide_eq_false h2
        go_wp2
        go_ret
        exact ⟨by rw [hT.out]; rfl, bel_drew w _⟩
    · have hT : Hid (v = false) := Lib.hid (by rw [← HV.out]; exact HNY.out.done (.inl (by rw [LA.out]; omega)))
      have d1 : decide (i < n) = false := decide_eq_false h1
      go_wp2
      go_ret
      exact ⟨by rw [hT.out]; rfl, bel_drew w _⟩

end Go.Proofs.Ytbiofikijehlcaa

namespace Go.Proofs.Ytbiofikijehlcaa
open Go.RowKit

set_option maxRecDepth 100000 in
set_option maxHeartbeats 8000000 in
theorem refMay_a (A : Option Addr) (m c : Nat) (h : Hd) (w : World) (hh : HAsk w A m c h) (h0 : ¬ 0 < m) :
    Calls Try.prog 45 #[.agg #[.int .i64 h.id, .slice A m c, .int .i64 h.frm, .int .i64 h.to]] w fun e w' => e = .returned (.bool false) ∧ Below w.heap.size w w' := by
  obtain ⟨W, hW⟩ : ∃ W, W = w.alloc (hO h A m c) := ⟨_, rfl⟩
  have BX : Hid (BoxH W w.heap.size h A m c) := Lib.hid (by rw [hW]; exact boxH_new w h A m c)
  have hb0 : Below w.heap.size w W := by rw [hW]; exact (Below.refl _ _).alloc (Nat.le_refl _) _
  have HB := Lib.hid hb0
  have HH := Lib.hid (hh.next hb0)
  unfold hO at hW
  have d0 : decide (0 < m) = false := decide_eq_false h0
  clear hb0 hh
  have q0 := BX.out.c0
  have q1 := BX.out.c1
  have q2 := BX.out.c2
  have q3 := BX.out.c3
  go_enter Try.func45, Try.ntmps45
  go_wp2_with fail
  rw [← hW]
  clear hW
  go_wp2
  go_ret
  exact ⟨rfl, HB.out⟩
set_option maxRecDepth 100000 in
set_option maxHeartbeats 8000000 in
theorem refMay_b (A : Option Addr) (m c : Nat) (h : Hd) (w : World) (hh : HAsk w A m c h) (h0 : 0 < m) (h1 : rightB h.things = false) :
    Calls Try.prog 45 #[.agg #[.int .i64 h.id, .slice A m c, .int .i64 h.frm, .int .i64 h.to]] w fun e w' => e = .returned (.bool false) ∧ Below w.heap.size w w' := by
  obtain ⟨W, hW⟩ : ∃ W, W = w.alloc (hO h A m c) := ⟨_, rfl⟩
  have BX : Hid (BoxH W w.heap.size h A m c) := Lib.hid (by rw [hW]; exact boxH_new w h A m c)
  have hb0 : Below w.heap.size w W := by rw [hW]; exact (Below.refl _ _).alloc (Nat.le_refl _) _
  have HB := Lib.hid hb0
  have HH := Lib.hid (hh.next hb0)
  unfold hO at hW
  have d0 : decide (0 < m) = true := decide_eq_true h0
  have H1 := Lib.hid h1
  clear hb0 hh h1
  have q0 := BX.out.c0
  have q1 := BX.out.c1
  have q2 := BX.out.c2
  have q3 := BX.out.c3
  go_enter Try.func45, Try.ntmps45
  go_wp2_with fail
  rw [← hW]
  clear hW
  refine (ri_isSet HH.out.reads HH.out.few H1.out).mono ?_
  rintro e w1 ⟨rfl, hb⟩
  have HB1 := Lib.hid (HB.out.trans (hb.mono HB.out.size))
  have BX1 := Lib.hid (BX.out.next hb)
  clear hb q0 q1 q2 q3
  have q0 := BX1.out.c0
  have q1 := BX1.out.c1
  have q2 := BX1.out.c2
  have q3 := BX1.out.c3
  go_wp2
  go_ret
  exact ⟨rfl, HB1.out⟩
set_option maxRecDepth 100000 in
set_option maxHeartbeats 8000000 in
theorem refMay_c (A : Option Addr) (m c : Nat) (h : Hd) (w : World) (hh : HAsk w A m c h) (h0 : 0 < m) (h1 : rightB h.things = true) (h2 : ¬ 0 ≤ h.frm) :
    Calls Try.prog 45 #[.agg #[.int .i64 h.id, .slice A m c, .int .i64 h.frm, .int .i64 h.to]] w fun e w' => e = .returned (.bool false) ∧ Below w.heap.size w w' := by
  obtain ⟨W, hW⟩ : ∃ W, W = w.alloc (hO h A m c) := ⟨_, rfl⟩
  have BX : Hid (BoxH W w.heap.size h A m c) := Lib.hid (by rw [hW]; exact boxH_new w h A m c)
  have hb0 : Below w.heap.size w W := by rw [hW]; exact (Below.refl _ _).alloc (Nat.le_refl _) _
  have HB := Lib.hid hb0
  have HH := Lib.hid (hh.next hb0)
  unfold hO at hW
  have d0 : decide (0 < m) = true := decide_eq_true h0
  have H1 := Lib.hid h1
  have d2 : decide ((0 : Int) ≤ h.frm) = false := decide_eq_false h2
  clear hb0 hh h1
  have q0 := BX.out.c0
  have q1 := BX.out.c1
  have q2 := BX.out.c2
  have q3 := BX.out.c3
  go_enter Try.func45, Try.ntmps45
  go_wp2_with fail
  rw [← hW]
  clear hW
  refine (ri_isSet HH.out.reads HH.out.few H1.out).mono ?_
  rintro e w1 ⟨rfl, hb⟩
  have HB1 := Lib.hid (HB.out.trans (hb.mono HB.out.size))
  have BX1 := Lib.hid (BX.out.next hb)
  clear hb q0 q1 q2 q3
  have q0 := BX1.out.c0
  have q1 := BX1.out.c1
  have q2 := BX1.out.c2
  have q3 := BX1.out.c3
  go_wp2
  go_ret
  exact ⟨rfl, HB1.out⟩
set_option maxRecDepth 100000 in
set_option maxHeartbeats 8000000 in
theorem refMay_d (A : Option Addr) (m c : Nat) (h : Hd) (w : World) (hh : HAsk w A m c h) (h0 : 0 < m) (h1 : rightB h.things = true) (h2 : 0 ≤ h.frm) (h3 : ¬ h.frm < h.to) :
    Calls Try.prog 45 #[.agg #[.int .i64 h.id, .slice A m c, .int .i64 h.frm, .int .i64 h.to]] w fun e w' => e = .returned (.bool false) ∧ Below w.heap.size w w' := by
  obtain ⟨W, hW⟩ : ∃ W, W = w.alloc (hO h A m c) := ⟨_, rfl⟩
  have BX : Hid (BoxH W w.heap.size h A m c) := Lib.hid (by rw [hW]; exact boxH_new w h A m c)
  have hb0 : Below w.heap.size w W := by rw [hW]; exact (Below.refl _ _).alloc (Nat.le_refl _) _
  have HB := Lib.hid hb0
  have HH := Lib.hid (hh.next hb0)
  unfold hO at hW
  have d0 : decide (0 < m) = true := decide_eq_true h0
  have H1 := Lib.hid h1
  have d2 : decide ((0 : Int) ≤ h.frm) = true := decide_eq_true h2
  have d3 : decide (h.frm < h.to) = false := decide_eq_false h3
  clear hb0 hh h1
  have q0 := BX.out.c0
  have q1 := BX.out.c1
  have q2 := BX.out.c2
  have q3 := BX.out.c3
  go_enter Try.func45, Try.ntmps45
  go_wp2_with fail
  rw [← hW]
  clear hW
  refine (ri_isSet HH.out.reads HH.out.few H1.out).mono ?_
  rintro e w1 ⟨rfl, hb⟩
  have HB1 := Lib.hid (HB.out.trans (hb.mono HB.out.size))
  have BX1 := Lib.hid (BX.out.next hb)
  clear hb q0 q1 q2 q3
  have q0 := BX1.out.c0
  have q1 := BX1.out.c1
  have q2 := BX1.out.c2
  have q3 := BX1.out.c3
  go_wp2
  go_ret
  exact ⟨rfl, HB1.out⟩
set_option maxRecDepth 100000 in
set_option maxHeartbeats 8000000 in
theorem refMay_e (A : Option Addr) (m c : Nat) (h : Hd) (w : World) (hh : HAsk w A m c h) (h0 : 0 < m) (h1 : rightB h.things = true) (h2 : 0 ≤ h.frm) (h3 : h.frm < h.to) (h4 : ¬ h.to ≤ 4611686018427387904) :
    Calls Try.prog 45 #[.agg #[.int .i64 h.id, .slice A m c, .int .i64 h.frm, .int .i64 h.to]] w fun e w' => e = .returned (.bool false) ∧ Below w.heap.size w w' := by
  obtain ⟨W, hW⟩ : ∃ W, W = w.alloc (hO h A m c) := ⟨_, rfl⟩
  have BX : Hid (BoxH W w.heap.size h A m c) := Lib.hid (by rw [hW]; exact boxH_new w h A m c)
  have hb0 : Below w.heap.size w W := by rw [hW]; exact (Below.refl _ _).alloc (Nat.le_refl _) _
  have HB := Lib.hid hb0
  have HH := Lib.hid (hh.next hb0)
  unfold hO at hW
  have d0 : decide (0 < m) = true := decide_eq_true h0
  have H1 := Lib.hid h1
  have d2 : decide ((0 : Int) ≤ h.frm) = true := decide_eq_true h2
  have d3 : decide (h.frm < h.to) = true := decide_eq_true h3
  have d4 : decide (h.to ≤ (4611686018427387904 : Int)) = false := decide_eq_false h4
  clear hb0 hh h1
  have q0 := BX.out.c0
  have q1 := BX.out.c1
  have q2 := BX.out.c2
  have q3 := BX.out.c3
  go_enter Try.func45, Try.ntmps45
  go_wp2_with fail
  rw [← hW]
  clear hW
  refine (ri_isSet HH.out.reads HH.out.few H1.out).mono ?_
  rintro e w1 ⟨rfl, hb⟩
  have HB1 := Lib.hid (HB.out.trans (hb.mono HB.out.size))
  have BX1 := Lib.hid (BX.out.next hb)
  clear hb q0 q1 q2 q3
  have q0 := BX1.out.c0
  have q1 := BX1.out.c1
  have q2 := BX1.out.c2
  have q3 := BX1.out.c3
  go_wp2
  go_ret
  exact ⟨rfl, HB1.out⟩
set_option maxRecDepth 100000 in
set_option maxHeartbeats 8000000 in
theorem refMay_f (A : Option Addr) (m c : Nat) (h : Hd) (w : World) (hh : HAsk w A m c h) (h0 : 0 < m) (h1 : rightB h.things = true) (h2 : 0 ≤ h.frm) (h3 : h.frm < h.to) (h4 : h.to ≤ 4611686018427387904) :
    Calls Try.prog 45 #[.agg #[.int .i64 h.id, .slice A m c, .int .i64 h.frm, .int .i64 h.to]] w fun e w' => e = .returned (.bool true) ∧ Below w.heap.size w w' := by
  obtain ⟨W, hW⟩ : ∃ W, W = w.alloc (hO h A m c) := ⟨_, rfl⟩
  have BX : Hid (BoxH W w.heap.size h A m c) := Lib.hid (by rw [hW]; exact boxH_new w h A m c)
  have hb0 : Below w.heap.size w W := by rw [hW]; exact (Below.refl _ _).alloc (Nat.le_refl _) _
  have HB := Lib.hid hb0
  have HH := Lib.hid (hh.next hb0)
  unfold hO at hW
  have d0 : decide (0 < m) = true := decide_eq_true h0
  have H1 := Lib.hid h1
  have d2 : decide ((0 : Int) ≤ h.frm) = true := decide_eq_true h2
  have d3 : decide (h.frm < h.to) = true := decide_eq_true h3
  have d4 : decide (h.to ≤ (4611686018427387904 : Int)) = true := decide_eq_true h4
  clear hb0 hh h1
  have q0 := BX.out.c0
  have q1 := BX.out.c1
  have q2 := BX.out.c2
  have q3 := BX.out.c3
  go_enter Try.func45, Try.ntmps45
  go_wp2_with fail
  rw [← hW]
  clear hW
  refine (ri_isSet HH.out.reads HH.out.few H1.out).mono ?_
  rintro e w1 ⟨rfl, hb⟩
  have HB1 := Lib.hid (HB.out.trans (hb.mono HB.out.size))
  have BX1 := Lib.hid (BX.out.next hb)
  clear hb q0 q1 q2 q3
  have q0 := BX1.out.c0
  have q1 := BX1.out.c1
  have q2 := BX1.out.c2
  have q3 := BX1.out.c3
  go_wp2
  go_ret
  exact ⟨rfl, HB1.out⟩
theorem refMay_any (A : Option Addr) (m c : Nat) (h : Hd) (w : World) (hh : HAsk w A m c h) :
    Calls Try.prog 45 #[.agg #[.int .i64 h.id, .slice A m c, .int .i64 h.frm, .int .i64 h.to]] w fun e w' => e = .returned (.bool (mayH h)) ∧ Below w.heap.size w w' := by
  have hl := hh.reads.1
  by_cases h0 : 0 < m
  · cases h1 : rightB h.things with
    | false =>
      rw [show mayH h = false from decide_eq_false (fun e => by have := e.2.1; rw [h1] at this; cases this)]
      exact refMay_b A m c h w hh h0 h1
    | true =>
      by_cases h2 : 0 ≤ h.frm
      · by_cases h3 : h.frm < h.to
        · by_cases h4 : h.to ≤ 4611686018427387904
          · rw [show mayH h = true from decide_eq_true ⟨by omega, h1, h2, h3, h4⟩]
            exact refMay_f A m c h w hh h0 h1 h2 h3 h4
          · rw [show mayH h = false from decide_eq_false (fun e => h4 e.2.2.2.2)]
            exact refMay_e A m c h w hh h0 h1 h2 h3 h4
        · rw [show mayH h = false from decide_eq_false (fun e => h3 e.2.2.2.1)]
          exact refMay_d A m c h w hh h0 h1 h2 h3
      · rw [show mayH h = false from decide_eq_false (fun e => h2 e.2.2.1)]
        exact refMay_c A m c h w hh h0 h1 h2
  · rw [show mayH h = false from decide_eq_false (fun e => h0 (by have := e.1; omega))]
    exact refMay_a A m c h w hh h0
theorem refMay_b' {A : Option Addr} {m c : Nat} {h : Hd} {w : World} {v : Bool} (hh : HAsk w A m c h) (e : mayH h = v) :
    Calls Try.prog 45 #[.agg #[.int .i64 h.id, .slice A m c, .int .i64 h.frm, .int .i64 h.to]] w fun e w' => e = .returned (.bool v) ∧ Below w.heap.size w w' := by
  subst e; exact refMay_any A m c h w hh

set_option maxRecDepth 100000 in
set_option maxHeartbeats 8000000 in
theorem refClash_n (A : Option Addr) (m c : Nat) (A2 : Option Addr) (m2 c2 : Nat) (a b : Hd) (w : World) (ha : HAsk w A m c a) (hb : HAsk w A2 m2 c2 b) (h1 : meetsZ a.frm a.to b.frm b.to = false) :
    Calls Try.prog 46 #[.agg #[.int .i64 a.id, .slice A m c, .int .i64 a.frm, .int .i64 a.to], .agg #[.int .i64 b.id, .slice A2 m2 c2, .int .i64 b.frm, .int .i64 b.to]] w fun e w' => e = .returned (.bool false) ∧ Below w.heap.size w w' := by
  obtain ⟨W, hW⟩ : ∃ W, W = (w.alloc (hO a A m c)).alloc (hO b A2 m2 c2) := ⟨_, rfl⟩
  have BX : Hid (BoxH W w.heap.size a A m c) := Lib.hid (by rw [hW]; exact (boxH_new w a A m c).next ((Below.refl _ _).alloc (Nat.le_refl _) _))
  have BY : Hid (BoxH W (w.heap.size + 1) b A2 m2 c2) := Lib.hid (by
    have := boxH_new (w.alloc (hO a A m c)) b A2 m2 c2
    rw [show (w.alloc (hO a A m c)).heap.size = w.heap.size + 1 by simp] at this
    rw [hW]; exact this)
  have hb0 : Below w.heap.size w W := by rw [hW]; exact ((Below.refl _ _).alloc (Nat.le_refl _) _).alloc (by simp) _
  have HB := Lib.hid hb0
  have HA := Lib.hid (ha.next hb0)
  have HA2 := Lib.hid (hb.next hb0)
  unfold hO at hW
  have E1 := Lib.hid h1
  clear hb0 ha hb h1
  have p0 := BX.out.c0
  have p1 := BX.out.c1
  have p2 := BX.out.c2
  have p3 := BX.out.c3
  have q0 := BY.out.c0
  have q1 := BY.out.c1
  have q2 := BY.out.c2
  have q3 := BY.out.c3
  go_enter Try.func46, Try.ntmps46
  go_wp2_with fail
  rw [← hW]
  clear hW
  refine (refMeets_b E1.out).mono ?_
  rintro e w1 ⟨rfl, hb⟩
  have HB1 := Lib.hid (HB.out.trans (hb.mono HB.out.size))
  have BX1 := Lib.hid (BX.out.next hb)
  have BY1 := Lib.hid (BY.out.next hb)
  have HA1 := Lib.hid (HA.out.next hb)
  have HA3 := Lib.hid (HA2.out.next hb)
  clear hb p0 p1 p2 p3 q0 q1 q2 q3
  go_wp2
  go_ret
  exact ⟨rfl, HB1.out⟩
set_option maxRecDepth 100000 in
set_option maxHeartbeats 8000000 in
theorem refClash_y (A : Option Addr) (m c : Nat) (A2 : Option Addr) (m2 c2 : Nat) (a b : Hd) (w : World) (ha : HAsk w A m c a) (hb : HAsk w A2 m2 c2 b) (hra : rightB a.things = true) (hrb : rightB b.things = true) (h1 : meetsZ a.frm a.to b.frm b.to = true) :
    Calls Try.prog 46 #[.agg #[.int .i64 a.id, .slice A m c, .int .i64 a.frm, .int .i64 a.to], .agg #[.int .i64 b.id, .slice A2 m2 c2, .int .i64 b.frm, .int .i64 b.to]] w fun e w' => e = .returned (.bool (touchB a.things b.things)) ∧ Below w.heap.size w w' := by
  obtain ⟨W, hW⟩ : ∃ W, W = (w.alloc (hO a A m c)).alloc (hO b A2 m2 c2) := ⟨_, rfl⟩
  have BX : Hid (BoxH W w.heap.size a A m c) := Lib.hid (by rw [hW]; exact (boxH_new w a A m c).next ((Below.refl _ _).alloc (Nat.le_refl _) _))
  have BY : Hid (BoxH W (w.heap.size + 1) b A2 m2 c2) := Lib.hid (by
    have := boxH_new (w.alloc (hO a A m c)) b A2 m2 c2
    rw [show (w.alloc (hO a A m c)).heap.size = w.heap.size + 1 by simp] at this
    rw [hW]; exact this)
  have hb0 : Below w.heap.size w W := by rw [hW]; exact ((Below.refl _ _).alloc (Nat.le_refl _) _).alloc (by simp) _
  have HB := Lib.hid hb0
  have HA := Lib.hid (ha.next hb0)
  have HA2 := Lib.hid (hb.next hb0)
  unfold hO at hW
  have E1 := Lib.hid h1
  have R1 := Lib.hid hra
  have R2 := Lib.hid hrb
  obtain ⟨v, hv⟩ : ∃ v, touchB a.things b.things = v := ⟨_, rfl⟩
  rw [hv]
  have EV := Lib.hid hv
  clear hra hrb hv
  clear hb0 ha hb h1
  have p0 := BX.out.c0
  have p1 := BX.out.c1
  have p2 := BX.out.c2
  have p3 := BX.out.c3
  have q0 := BY.out.c0
  have q1 := BY.out.c1
  have q2 := BY.out.c2
  have q3 := BY.out.c3
  go_enter Try.func46, Try.ntmps46
  go_wp2_with fail
  rw [← hW]
  clear hW
  refine (refMeets_b E1.out).mono ?_
  rintro e w1 ⟨rfl, hb⟩
  have HB1 := Lib.hid (HB.out.trans (hb.mono HB.out.size))
  have BX1 := Lib.hid (BX.out.next hb)
  have BY1 := Lib.hid (BY.out.next hb)
  have HA1 := Lib.hid (HA.out.next hb)
  have HA3 := Lib.hid (HA2.out.next hb)
  clear hb p0 p1 p2 p3 q0 q1 q2 q3
  have p0 := BX1.out.c0
  have p1 := BX1.out.c1
  have p2 := BX1.out.c2
  have p3 := BX1.out.c3
  have q0 := BY1.out.c0
  have q1 := BY1.out.c1
  have q2 := BY1.out.c2
  have q3 := BY1.out.c3
  have ht := refTouch_any _ _ c _ _ c2 _ _ w1 HA1.out.reads HA3.out.reads HA1.out.few HA3.out.few R1.out R2.out
  rw [EV.out] at ht
  have HT := Lib.hid ht
  clear ht
  go_wp2_with fail
  refine HT.out.mono ?_
  rintro e w2 ⟨rfl, hb⟩
  have HB2 := Lib.hid (HB1.out.trans (hb.mono HB1.out.size))
  clear hb
  go_wp2
  go_ret
  exact ⟨rfl, HB2.out⟩
theorem refClash_b {A : Option Addr} {m c : Nat} {A2 : Option Addr} {m2 c2 : Nat} {a b : Hd} {w : World} {v : Bool} (ha : HAsk w A m c a) (hb : HAsk w A2 m2 c2 b) (hra : rightB a.things = true) (hrb : rightB b.things = true) (e : clashH a b = v) :
    Calls Try.prog 46 #[.agg #[.int .i64 a.id, .slice A m c, .int .i64 a.frm, .int .i64 a.to], .agg #[.int .i64 b.id, .slice A2 m2 c2, .int .i64 b.frm, .int .i64 b.to]] w fun e w' => e = .returned (.bool v) ∧ Below w.heap.size w w' := by
  subst e
  unfold clashH
  cases h : meetsZ a.frm a.to b.frm b.to with
  | false => exact refClash_n A m c A2 m2 c2 a b w ha hb h
  | true => exact refClash_y A m c A2 m2 c2 a b w ha hb hra hrb h

end Go.Proofs.Ytbiofikijehlcaa
