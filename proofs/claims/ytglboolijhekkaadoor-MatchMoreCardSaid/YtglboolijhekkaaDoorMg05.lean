/- What set.Part, Apart and Has, and the reference's Has and Which answer: of lists of int, what the document says of sets. The program's sets, and the reference's, in one form: what each call answers of lists of int; all that was there is kept. What the program's functions of layer 5 (graph) answer, as one list of contracts: the statements' walks lean on it alone. What the program's functions of layer 7 (spec) answer, as one list of contracts: the statements' walks lean on it alone. What the program's functions of layer 9 (match) answer, as one list of contracts: the statements' walks lean on it alone. Regions that draw their order and whose callees may make memory of their own, but hand back plain values: walked once, in the order of the text, in the class of all worlds that keep what was there. No program's text is walked here. The fixed answers that the statements of layer 9 ask for first, as a walk over the contracts. A list of the numbers that have a property, walked from the front: what is seen so far. No program's text is walked here. -/
import Derived.Test.YtglboolijhekkaaDoorMg04
import Derived.Test.YtglboolijhekkaaDoorMg01
import Derived.Test.YtglboolijhekkaaDoorMg03
import Derived.Test.YtglboolijhekkaaDoorMg02
import Derived.BigQuiet
import Derived.Deep.RegionHeld3
namespace Go.Proofs.YtglboolijhekkaaDoor
open Go.RowKit
open Go.Shelf
attribute [local go_sem] alloc_drewN setCell_drewN

theorem four_zero {p : Int → Bool} {a0 a1 a2 a3 : Nat} (h : Four p a0 a1 a2 a3) : decide (a0 = 0 ∧ a1 = 0 ∧ a2 = 0 ∧ a3 = 0) = true ↔ ∀ n : Int, 0 ≤ n → n ≤ 255 → p n = false := by
  obtain ⟨rfl, rfl, rfl, rfl⟩ := h
  rw [decide_eq_true_eq]
  constructor
  · rintro ⟨h0, h1, h2, h3⟩ n g0 g1
    have hk : n / 64 = 0 ∨ n / 64 = 1 ∨ n / 64 = 2 ∨ n / 64 = 3 := by omega
    rcases hk with hk | hk | hk | hk
    · have := bitsTo_zero.1 h0 (n - 0).toNat (by omega)
      have e : ((64 * 0 + (n - 0).toNat : Nat) : Int) = n := by omega
      rwa [e] at this
    · have := bitsTo_zero.1 h1 (n - 64).toNat (by omega)
      have e : ((64 * 1 + (n - 64).toNat : Nat) : Int) = n := by omega
      rwa [e] at this
    · have := bitsTo_zero.1 h2 (n - 128).toNat (by omega)
      have e : ((64 * 2 + (n - 128).toNat : Nat) : Int) = n := by omega
      rwa [e] at this
    · have := bitsTo_zero.1 h3 (n - 192).toNat (by omega)
      have e : ((64 * 3 + (n - 192).toNat : Nat) : Int) = n := by omega
      rwa [e] at this
  · intro h
    exact ⟨bitsTo_zero.2 fun j hj => h _ (by omega) (by omega), bitsTo_zero.2 fun j hj => h _ (by omega) (by omega), bitsTo_zero.2 fun j hj => h _ (by omega) (by omega), bitsTo_zero.2 fun j hj => h _ (by omega) (by omega)⟩
theorem part_four {xs ys : List Int} (hx : rightB xs = true) (hy : rightB ys = true) {a0 a1 a2 a3 : Nat} (h : Four (fun n => inB xs n && !inB ys n) a0 a1 a2 a3) : decide (a0 = 0 ∧ a1 = 0 ∧ a2 = 0 ∧ a3 = 0) = partB xs ys := by
  rw [Bool.eq_iff_iff, four_zero h]
  unfold partB
  rw [hx, hy]
  simp only [Bool.and_self, Bool.true_and, List.all_eq_true]
  constructor
  · intro h n hn
    have := right_mem hx n hn
    have h2 := h n this.1 this.2
    have h3 : inB xs n = true := List.contains_iff_mem.2 hn
    rw [h3] at h2
    simpa [inB] using h2
  · intro h n _ _
    cases h3 : inB xs n with
    | false => rfl
    | true => have := h n (List.contains_iff_mem.1 h3); simpa [inB] using this
theorem apart_four {xs ys : List Int} (hx : rightB xs = true) (hy : rightB ys = true) {a0 a1 a2 a3 : Nat} (h : Four (fun n => inB xs n && inB ys n) a0 a1 a2 a3) : decide (a0 = 0 ∧ a1 = 0 ∧ a2 = 0 ∧ a3 = 0) = apartB xs ys := by
  rw [Bool.eq_iff_iff, four_zero h]
  unfold apartB
  rw [hx, hy]
  simp only [Bool.and_self, Bool.true_and, List.all_eq_true]
  constructor
  · intro h n hn
    have := right_mem hx n hn
    have h2 := h n this.1 this.2
    have h3 : inB xs n = true := List.contains_iff_mem.2 hn
    rw [h3] at h2
    simpa [inB] using h2
  · intro h n _ _
    cases h3 : inB xs n with
    | false => rfl
    | true => have := h n (List.contains_iff_mem.1 h3); simpa [inB] using this

set_option maxHeartbeats 1000000 in
theorem part_any (A A' : Option Addr) (n c n' c' : Nat) (xs ys : List Int) (w : World) (hr : RI w w.heap.size A n xs) (hr' : RI w w.heap.size A' n' ys) (hn : n ≤ maxLen) (hn' : n' ≤ maxLen) :
    Calls Tryd.prog 9 #[.slice A n c, .slice A' n' c'] w fun e w' => e = .returned (.bool (partB xs ys)) ∧ Below w.heap.size w w' := by
  by_cases hxy : (rightB xs && rightB ys) = true
  · have hx : Hid (rightB xs = true) := Lib.hid (by simp at hxy; exact hxy.1)
    have hy : Hid (rightB ys = true) := Lib.hid (by simp at hxy; exact hxy.2)
    clear hxy
    go_enter Tryd.func9, Tryd.ntmps9
    go_wp2_with fail
    refine (both_yes _ _ _ _ _ _ xs ys _ hr hr' hn hn' hx.out hy.out).mono ?_
    rintro e w1 ⟨⟨a0, a1, a2, a3, b0, b1, b2, b3, ha, hb, rfl⟩, hb1⟩
    have HA := Lib.hid ha
    have HBB := Lib.hid hb
    obtain ⟨ua0, ua1, ua2, ua3⟩ := four_lt ha
    obtain ⟨ub0, ub1, ub2, ub3⟩ := four_lt hb
    have HZ := Lib.hid (part_four hx.out hy.out (four_less ha hb))
    clear ha hb hr hr'
    have hz := hb1.size
    go_wp2_with fail
    refine (wless_any a0 a1 a2 a3 b0 b1 b2 b3 _ ua0 ua1 ua2 ua3 ub0 ub1 ub2 ub3).mono ?_
    rintro e w2 ⟨rfl, hb2⟩
    have hb3 : Below w.heap.size w w2 := ((hb1.alloc (by omega) _).alloc (by simp; omega) _).trans (hb2.mono (by simp; omega))
    have hz3 := hb3.size
    go_wp2_with fail
    refine (empty_any _ _ _ _ _).mono ?_
    rintro e w3 ⟨rfl, hb4⟩
    rw [HZ.out]
    generalize hzz : partB xs ys = z at *
    have HZZ := Lib.hid hzz
    clear hzz
    go_wp2
    go_ret
    exact ⟨ret_bool HZZ.out, hb3.trans (hb4.mono hz3)⟩
  · have hno : (rightB xs && rightB ys) = false := by simpa using hxy
    have HL : Hid (partB xs ys = false) := Lib.hid (by unfold partB; rw [hno]; rfl)
    have HN := Lib.hid hno
    clear hxy hno
    go_enter Tryd.func9, Tryd.ntmps9
    go_wp2_with fail
    refine (both_no _ _ _ _ _ _ xs ys _ hr hr' hn hn' HN.out).mono ?_
    rintro e w1 ⟨rfl, hb1⟩
    have hz := hb1.size
    clear hr hr'
    go_wp2
    go_ret
    exact ⟨ret_bool HL.out, (hb1.alloc (by omega) _).alloc (by simp; omega) _⟩

set_option maxHeartbeats 1000000 in
theorem apart_any (A A' : Option Addr) (n c n' c' : Nat) (xs ys : List Int) (w : World) (hr : RI w w.heap.size A n xs) (hr' : RI w w.heap.size A' n' ys) (hn : n ≤ maxLen) (hn' : n' ≤ maxLen) :
    Calls Tryd.prog 20 #[.slice A n c, .slice A' n' c'] w fun e w' => e = .returned (.bool (apartB xs ys)) ∧ Below w.heap.size w w' := by
  by_cases hxy : (rightB xs && rightB ys) = true
  · have hx : Hid (rightB xs = true) := Lib.hid (by simp at hxy; exact hxy.1)
    have hy : Hid (rightB ys = true) := Lib.hid (by simp at hxy; exact hxy.2)
    clear hxy
    go_enter Tryd.func20, Tryd.ntmps20
    go_wp2_with fail
    refine (both_yes _ _ _ _ _ _ xs ys _ hr hr' hn hn' hx.out hy.out).mono ?_
    rintro e w1 ⟨⟨a0, a1, a2, a3, b0, b1, b2, b3, ha, hb, rfl⟩, hb1⟩
    have HA := Lib.hid ha
    have HBB := Lib.hid hb
    obtain ⟨ua0, ua1, ua2, ua3⟩ := four_lt ha
    obtain ⟨ub0, ub1, ub2, ub3⟩ := four_lt hb
    have HZ := Lib.hid (apart_four hx.out hy.out (four_and ha hb))
    clear ha hb hr hr'
    have hz := hb1.size
    go_wp2_with fail
    refine (wmeet_any a0 a1 a2 a3 b0 b1 b2 b3 _ ua0 ua1 ua2 ua3 ub0 ub1 ub2 ub3).mono ?_
    rintro e w2 ⟨rfl, hb2⟩
    have hb3 : Below w.heap.size w w2 := ((hb1.alloc (by omega) _).alloc (by simp; omega) _).trans (hb2.mono (by simp; omega))
    have hz3 := hb3.size
    go_wp2_with fail
    refine (empty_any _ _ _ _ _).mono ?_
    rintro e w3 ⟨rfl, hb4⟩
    rw [HZ.out]
    generalize hzz : apartB xs ys = z at *
    have HZZ := Lib.hid hzz
    clear hzz
    go_wp2
    go_ret
    exact ⟨ret_bool HZZ.out, hb3.trans (hb4.mono hz3)⟩
  · have hno : (rightB xs && rightB ys) = false := by simpa using hxy
    have HL : Hid (apartB xs ys = false) := Lib.hid (by unfold apartB; rw [hno]; rfl)
    have HN := Lib.hid hno
    clear hxy hno
    go_enter Tryd.func20, Tryd.ntmps20
    go_wp2_with fail
    refine (both_no _ _ _ _ _ _ xs ys _ hr hr' hn hn' HN.out).mono ?_
    rintro e w1 ⟨rfl, hb1⟩
    have hz := hb1.size
    clear hr hr'
    go_wp2
    go_ret
    exact ⟨ret_bool HL.out, (hb1.alloc (by omega) _).alloc (by simp; omega) _⟩


theorem has_word {xs : List Int} {a i r x : Nat} (h : a = wordOf (inB xs) i) (hs : rightB xs = true) (hr : r < 64) (hx : x = 64 * i + r) : hasB xs (x : Int) = (bits .and .u64 ((a : Int) / 2 ^ r) 1 == 1) := by
  subst h
  have hlt : wordOf (inB xs) i / 2 ^ r < 18446744073709551616 := Nat.lt_of_le_of_lt (Nat.div_le_self _ _) (wordOf_lt _ _)
  have e : ((wordOf (inB xs) i : Nat) : Int) / 2 ^ r = ((wordOf (inB xs) i / 2 ^ r : Nat) : Int) := by simp
  have e2 : bits .and .u64 (((wordOf (inB xs) i / 2 ^ r : Nat) : Int)) 1 = ((wordOf (inB xs) i / 2 ^ r &&& 1 : Nat) : Int) := u64_and_nat _ 1 hlt (by omega)
  rw [e, e2, nat_mask1]
  have hb : hasB xs (x : Int) = (wordOf (inB xs) i).testBit r := by
    unfold wordOf
    rw [testBit_bitsTo, ← hx]
    unfold hasB inB
    simp [hs, hr]
  rw [hb, Nat.testBit_eq_decide_div_mod_eq, Bool.eq_iff_iff]
  simp
  omega



end Go.Proofs.YtglboolijhekkaaDoor

namespace Go.Proofs.YtglboolijhekkaaDoor
open Go.RowKit

section
variable {A A' : Option Addr} {n c n' c' : Nat} {xs ys : List Int} {w : World}
theorem s_isSet {v : Bool} (hr : RI w w.heap.size A n xs) (hn : n ≤ maxLen) (h : rightB xs = v) :
    Calls Tryd.prog 16 #[.slice A n c] w fun e w' => e = .returned (.bool v) ∧ Below w.heap.size w w' :=
  (right_any A n c xs w _ hr hn).mono fun _ _ ⟨h1, h2⟩ => ⟨by rw [h1, h], by rw [← h2]; exact Below.refl _ _⟩
theorem s_part {v : Bool} (hr : RI w w.heap.size A n xs) (hr' : RI w w.heap.size A' n' ys) (hn : n ≤ maxLen) (hn' : n' ≤ maxLen) (h : partB xs ys = v) :
    Calls Tryd.prog 9 #[.slice A n c, .slice A' n' c'] w fun e w' => e = .returned (.bool v) ∧ Below w.heap.size w w' := h ▸ part_any A A' n c n' c' xs ys w hr hr' hn hn'
theorem s_apart {v : Bool} (hr : RI w w.heap.size A n xs) (hr' : RI w w.heap.size A' n' ys) (hn : n ≤ maxLen) (hn' : n' ≤ maxLen) (h : apartB xs ys = v) :
    Calls Tryd.prog 20 #[.slice A n c, .slice A' n' c'] w fun e w' => e = .returned (.bool v) ∧ Below w.heap.size w w' := h ▸ apart_any A A' n c n' c' xs ys w hr hr' hn hn'
theorem s_join (hr : RI w w.heap.size A n xs) (hr' : RI w w.heap.size A' n' ys) (hn : n ≤ maxLen) (hn' : n' ≤ maxLen) (hG : Glob w) :
    Calls Tryd.prog 18 #[.slice A n c, .slice A' n' c'] w (IPost (joinL xs ys) w) := join_post A A' n c n' c' xs ys w hr hr' hn hn' hG.tz hG.pos
theorem s_meet (hr : RI w w.heap.size A n xs) (hr' : RI w w.heap.size A' n' ys) (hn : n ≤ maxLen) (hn' : n' ≤ maxLen) (hG : Glob w) :
    Calls Tryd.prog 12 #[.slice A n c, .slice A' n' c'] w (IPost (meetL xs ys) w) := meet_post A A' n c n' c' xs ys w hr hr' hn hn' hG.tz hG.pos
theorem s_less (hr : RI w w.heap.size A n xs) (hr' : RI w w.heap.size A' n' ys) (hn : n ≤ maxLen) (hn' : n' ≤ maxLen) (hG : Glob w) :
    Calls Tryd.prog 19 #[.slice A n c, .slice A' n' c'] w (IPost (lessL xs ys) w) := less_post A A' n c n' c' xs ys w hr hr' hn hn' hG.tz hG.pos
end

end Go.Proofs.YtglboolijhekkaaDoor

namespace Go.Proofs.YtglboolijhekkaaDoor
open Go.RowKit

/-- what the statements ask about a graph, a list of numbers -/
structure GAsk (w : World) (A : Option Addr) (n c : Nat) (g : Gr) : Prop where
  reads : RG w w.heap.size A n g
  nil : A = none → c = 0
  cap : n ≤ c
  few : n ≤ 300
structure LAsk (w : World) (A : Option Addr) (n c : Nat) (l : List Int) : Prop where
  reads : RI w w.heap.size A n l
  nil : A = none → c = 0
  cap : n ≤ c
  few : n ≤ 300
  int : ∀ x ∈ l, I64 x
theorem GAsk.next {w w' : World} {A : Option Addr} {n c : Nat} {g : Gr} (h : GAsk w A n c g) (hb : Below w.heap.size w w') : GAsk w' A n c g := ⟨h.reads.next hb, h.nil, h.cap, h.few⟩
theorem LAsk.next {w w' : World} {A : Option Addr} {n c : Nat} {l : List Int} (h : LAsk w A n c l) (hb : Below w.heap.size w w') : LAsk w' A n c l := ⟨h.reads.next hb, h.nil, h.cap, h.few, h.int⟩

/-- a list of numbers, however long -/
structure WAsk (w : World) (A : Option Addr) (n c : Nat) (l : List Int) : Prop where
  reads : RI w w.heap.size A n l
  nil : A = none → c = 0
  cap : n ≤ c
  few : n ≤ maxLen
  int : ∀ x ∈ l, I64 x
theorem WAsk.next {w w' : World} {A : Option Addr} {n c : Nat} {l : List Int} (h : WAsk w A n c l) (hb : Below w.heap.size w w') : WAsk w' A n c l := ⟨h.reads.next hb, h.nil, h.cap, h.few, h.int⟩
theorem LAsk.wide {w : World} {A : Option Addr} {n c : Nat} {l : List Int} (h : LAsk w A n c l) : WAsk w A n c l := ⟨h.reads, h.nil, h.cap, Nat.le_trans h.few (by unfold maxLen; omega), h.int⟩

structure GraphOk : Prop where
  right : ∀ (A : Option Addr) (n c : Nat) (g : Gr) (w : World), GAsk w A n c g → Glob w →
    Calls Tryd.prog 17 #[.slice A n c] w fun e w' => e = .returned (.bool (rightG g)) ∧ Below w.heap.size w w'
  tag : ∀ (s : ByteArray) (w : World), s.size ≤ maxLen → Glob w →
    Calls Tryd.prog 24 #[.string s] w fun e w' => e = .returned (.bool (tagB s)) ∧ Below w.heap.size w w'
  under : ∀ (A : Option Addr) (n c : Nat) (g : Gr) (a : Int) (w : World), GAsk w A n c g → I64 a → Glob w →
    Calls Tryd.prog 13 #[.slice A n c, .int .i64 a] w (IPost (underL g a) w)
  kinds : ∀ (A : Option Addr) (n c : Nat) (A2 : Option Addr) (n2 c2 : Nat) (g : Gr) (l : List Int) (w : World), GAsk w A n c g → LAsk w A2 n2 c2 l → Glob w →
    Calls Tryd.prog 14 #[.slice A n c, .slice A2 n2 c2] w fun e w' => e = .returned (kVal g l) ∧ Below w.heap.size w w'
  nodes : ∀ (A : Option Addr) (n c : Nat) (g : Gr) (w : World), GAsk w A n c g → Glob w →
    Calls Tryd.prog 11 #[.slice A n c] w (IPost (nodesL g) w)

theorem ml300 {n : Nat} (h : n ≤ 300) : n ≤ maxLen := by unfold maxLen; omega
theorem calls_kinds {P : Program} {f : FuncId} {args : Array Value} {w : World} {v v' : Value} (h : Calls P f args w fun e w' => e = .returned v ∧ Below w.heap.size w w') (e : v = v') :
    Calls P f args w fun e w' => e = .returned v' ∧ Below w.heap.size w w' := by
  subst e; exact h
theorem i64_small {k : Nat} (h : k ≤ 300) : I64 (k : Int) := by unfold I64; omega

/-! The lists, as sets of numbers below 256 -/
section
variable {g : Gr}
theorem underL_len (a : Int) : (underL g a).length ≤ 256 := by
  unfold underL
  split
  · rename_i h
    have h1 := (rightG_is h.1).few
    exact Nat.le_trans (numsF_len _ _) h1
  · exact Nat.zero_le _
theorem aboveL_len (a : Int) : (aboveL g a).length ≤ 256 := by
  unfold aboveL
  split
  · rename_i h
    have h1 := (rightG_is h.1).few
    exact Nat.le_trans (numsF_len _ _) (by omega)
  · exact Nat.zero_le _
theorem wholeL_len (l : List Int) : (wholeL g l).length ≤ 256 := by
  unfold wholeL
  split
  · rename_i h
    unfold wholeOk at h
    rw [Bool.and_eq_true, Bool.and_eq_true] at h
    exact Nat.le_trans (numsF_len _ _) (rightG_is h.1.1).few
  · exact Nat.zero_le _
theorem nodesL_len : (nodesL g).length ≤ 256 := by
  unfold nodesL
  split
  · rename_i h
    exact Nat.le_trans (numsF_len _ _) (rightG_is h).few
  · exact Nat.zero_le _
theorem numsF_i64 {p : Nat → Bool} {n : Nat} (hn : n ≤ 300) : ∀ x ∈ numsF p n, I64 x := by
  intro x hx
  obtain ⟨k, hk, _, rfl⟩ := mem_numsF.1 hx
  exact i64_small (by omega)
theorem underL_i64 (a : Int) : ∀ x ∈ underL g a, I64 x := by
  unfold underL
  split
  · rename_i h
    have h1 := (rightG_is h.1).few
    exact numsF_i64 (by omega)
  · intro x hx; cases hx
theorem wholeL_i64 (l : List Int) : ∀ x ∈ wholeL g l, I64 x := by
  unfold wholeL
  split
  · rename_i h
    unfold wholeOk at h
    rw [Bool.and_eq_true, Bool.and_eq_true] at h
    have h1 := (rightG_is h.1.1).few
    exact numsF_i64 (by omega)
  · intro x hx; cases hx
end

end Go.Proofs.YtglboolijhekkaaDoor

namespace Go.Proofs.YtglboolijhekkaaDoor
open Go.RowKit

structure SpecOk : Prop where
  right : ∀ (s : Sp) (w : World), SAsk s → Glob w → Calls Tryd.prog 7 #[spV s] w fun e w' => e = .returned (.bool (rightS s)) ∧ Below w.heap.size w w'

section
variable (H : SpecOk) {s t : Sp} {w : World} (hs : SAsk s) (hG : Glob w)
include H hs hG
theorem s7_right {b : Bool} (h : rightS s = b) : Calls Tryd.prog 7 #[.agg #[.int .i64 s.nodes, .int .i64 s.cores, .int .i64 s.gpus, .string s.tag, .bool s.whole, .int .i64 s.long, .int .i64 s.prio]] w fun e w' => e = .returned (.bool b) ∧ Below w.heap.size w w' := by
  subst h; exact H.right s w hs hG
end
theorem i64_of {x : Int} (h1 : -2000000000000 ≤ x) (h2 : x ≤ 2000000000000) : I64 x := by unfold I64; omega

end Go.Proofs.YtglboolijhekkaaDoor

namespace Go.Proofs.YtglboolijhekkaaDoor
open Go.RowKit

/-- numbers and a yes or no, as a result that may be asked about again -/
def FPost (l : List Int) (b : Bool) (w : World) (e : Ending) (w' : World) : Prop :=
  (∃ A c, e = .returned (.tuple #[.slice A l.length c, .bool b]) ∧ RI w' w'.heap.size A l.length l ∧ (A = none → c = 0) ∧ l.length ≤ c) ∧ Below w.heap.size w w'
structure MatchOk : Prop where
  suits : ∀ (A : Option Addr) (n c : Nat) (A2 : Option Addr) (n2 c2 : Nat) (g : Gr) (F : List Int) (s : Sp) (a : Int) (w : World), GAsk w A n c g → LAsk w A2 n2 c2 F → SAsk s → I64 a → Glob w →
    Calls Tryd.prog 15 #[.slice A n c, .slice A2 n2 c2, spV s, .int .i64 a] w fun e w' => e = .returned (.bool (suitsL g F s a)) ∧ Below w.heap.size w w'
  many : ∀ (A : Option Addr) (n c : Nat) (A2 : Option Addr) (n2 c2 : Nat) (g : Gr) (F : List Int) (s : Sp) (w : World), GAsk w A n c g → LAsk w A2 n2 c2 F → SAsk s → Glob w →
    Calls Tryd.prog 8 #[.slice A n c, .slice A2 n2 c2, spV s] w fun e w' => e = .returned (.int .i64 (manyL g F s)) ∧ Below w.heap.size w w'
  find : ∀ (A : Option Addr) (n c : Nat) (A2 : Option Addr) (n2 c2 : Nat) (g : Gr) (F : List Int) (s : Sp) (w : World), GAsk w A n c g → LAsk w A2 n2 c2 F → SAsk s → Glob w →
    Calls Tryd.prog 6 #[.slice A n c, .slice A2 n2 c2, spV s] w (FPost (findL g F s) (hadB g F s) w)
  could : ∀ (A : Option Addr) (n c : Nat) (g : Gr) (s : Sp) (w : World), GAsk w A n c g → SAsk s → Glob w →
    Calls Tryd.prog 10 #[.slice A n c, spV s] w fun e w' => e = .returned (.bool (couldL g s)) ∧ Below w.heap.size w w'

section
variable (H : MatchOk) {A : Option Addr} {n c : Nat} {A2 : Option Addr} {n2 c2 : Nat} {g : Gr} {F : List Int} {s : Sp} {w : World}
include H
theorem m9_suits (hg : GAsk w A n c g) (hf : LAsk w A2 n2 c2 F) (hs : SAsk s) (hG : Glob w) {a : Int} {b : Bool} (ha : I64 a) (h : suitsL g F s a = b) :
    Calls Tryd.prog 15 #[.slice A n c, .slice A2 n2 c2, .agg #[.int .i64 s.nodes, .int .i64 s.cores, .int .i64 s.gpus, .string s.tag, .bool s.whole, .int .i64 s.long, .int .i64 s.prio], .int .i64 a] w fun e w' => e = .returned (.bool b) ∧ Below w.heap.size w w' := by
  subst h; exact H.suits A n c A2 n2 c2 g F s a w hg hf hs ha hG
theorem m9_many (hg : GAsk w A n c g) (hf : LAsk w A2 n2 c2 F) (hs : SAsk s) (hG : Glob w) {m : Int} (h : manyL g F s = m) :
    Calls Tryd.prog 8 #[.slice A n c, .slice A2 n2 c2, .agg #[.int .i64 s.nodes, .int .i64 s.cores, .int .i64 s.gpus, .string s.tag, .bool s.whole, .int .i64 s.long, .int .i64 s.prio]] w fun e w' => e = .returned (.int .i64 m) ∧ Below w.heap.size w w' := by
  subst h; exact H.many A n c A2 n2 c2 g F s w hg hf hs hG
theorem m9_find (hg : GAsk w A n c g) (hf : LAsk w A2 n2 c2 F) (hs : SAsk s) (hG : Glob w) {l : List Int} {b : Bool} (h : findL g F s = l) (h2 : hadB g F s = b) :
    Calls Tryd.prog 6 #[.slice A n c, .slice A2 n2 c2, .agg #[.int .i64 s.nodes, .int .i64 s.cores, .int .i64 s.gpus, .string s.tag, .bool s.whole, .int .i64 s.long, .int .i64 s.prio]] w (FPost l b w) := by
  subst h h2; exact H.find A n c A2 n2 c2 g F s w hg hf hs hG
theorem m9_could (hg : GAsk w A n c g) (hs : SAsk s) (hG : Glob w) {b : Bool} (h : couldL g s = b) :
    Calls Tryd.prog 10 #[.slice A n c, .agg #[.int .i64 s.nodes, .int .i64 s.cores, .int .i64 s.gpus, .string s.tag, .bool s.whole, .int .i64 s.long, .int .i64 s.prio]] w fun e w' => e = .returned (.bool b) ∧ Below w.heap.size w w' := by
  subst h; exact H.could A n c g s w hg hs hG
end
theorem bel_drew1 (w : World) : Below w.heap.size w w.drew := bel_drew w 1
theorem keep_cell {w wx : World} {p : Addr} {v : Value} (hl : p.block < w.heap.size) (h : w.cell? p = some v) (hb : Below w.heap.size w wx) : wx.cell? p = some v := (hb.cell hl).trans h
/-- a cell, kept from world to world -/
structure CellK (w : World) (p : Addr) (v : Value) : Prop where
  lt : p.block < w.heap.size
  at' : w.cell? p = some v
theorem CellK.next {w w' : World} {p : Addr} {v : Value} (h : CellK w p v) (hb : Below w.heap.size w w') : CellK w' p v := ⟨Nat.lt_of_lt_of_le h.lt hb.size, keep_cell h.lt h.at' hb⟩
theorem cell_list {w : World} {A : Option Addr} {n k : Nat} {l : List Int} {x : Int} (h : RI w w.heap.size A n l) (hk : k < n) (hx : l.getD k 0 = x) : ∃ b off, A = some ⟨b, off, none⟩ ∧ CellK w ⟨b, off + k, none⟩ (.int .i64 x) := by
  obtain ⟨b, off, e, hl, hc⟩ := RI.one h hk
  rw [hx] at hc
  exact ⟨b, off, e, hl, hc⟩
theorem cell_tag {w : World} {A : Option Addr} {n k : Nat} {g : Gr} {t : ByteArray} (h : RG w w.heap.size A n g) (hk : k < n) (hx : gt g k = t) : ∃ b off, A = some ⟨b, off, none⟩ ∧ CellK w ⟨b, off + k * 3 + 2, none⟩ (.string t) := by
  obtain ⟨b, off, e, hl, _, _, hc, _⟩ := RG.one h hk
  rw [hx] at hc
  exact ⟨b, off, e, hl, hc⟩
/-- a field of a spec in its box is set -/
theorem BoxS.set {wr : World} {g j : Nat} {s s' : Sp} {v : Value} (h : BoxS wr g s) (e : (#[.int .i64 s.nodes, .int .i64 s.cores, .int .i64 s.gpus, .string s.tag, .bool s.whole, .int .i64 s.long, .int .i64 s.prio] : Array Value).setIfInBounds j v = #[.int .i64 s'.nodes, .int .i64 s'.cores, .int .i64 s'.gpus, .string s'.tag, .bool s'.whole, .int .i64 s'.long, .int .i64 s'.prio]) : BoxS (wr.setCell ⟨g, j, none⟩ v) g s' := by
  refine ⟨by simpa [World.setCell] using h.lt, ?_⟩
  show (wr.heap.modify g _)[g]? = _
  rw [Array.getElem?_modify, if_pos rfl, h.at']
  unfold spO
  simp only [Option.map_some]
  rw [← e]
  rfl
theorem str_none {s : ByteArray} (h : s.size = 0) : s.toList = [] ∧ s.toList.isEmpty = true ∧ (s.toList == []) = true ∧ (s.toList != []) = false := by
  have h1 : s.toList = [] := by rw [ByteArray.toList_eq, str_empty h]
  rw [h1]
  exact ⟨rfl, rfl, rfl, rfl⟩
theorem str_ne {a b : ByteArray} (h : a ≠ b) : (a.toList == b.toList) = false ∧ (a.toList != b.toList) = true ∧ ¬ a.toList = b.toList := by
  have h1 : ¬ a.toList = b.toList := by
    rw [ByteArray.toList_eq, ByteArray.toList_eq]
    intro e
    exact h (ByteArray.ext (Array.ext' e))
  exact ⟨beq_eq_false_iff_ne.2 h1, bne_iff_ne.2 h1, h1⟩
theorem suitsL_is {g : Gr} {F : List Int} {s : Sp} {x : Nat} (hx : x < g.length) : suitsL g F s (x : Int) = (mayB g F s && suitP g F s x) := by
  unfold suitsL
  rw [decide_eq_true (show (0 : Int) ≤ (x : Int) ∧ (x : Int) < (g.length : Int) by omega), Int.toNat_natCast, Bool.true_and]
theorem plain_ask {s : Sp} (h : SAsk s) : SAsk (plainS s) := ⟨h.nodes, h.cores, h.gpus, (Nat.zero_le _ : (⟨#[]⟩ : ByteArray).size ≤ maxLen), h.long, h.prio⟩
theorem findL_i64 {g : Gr} {F : List Int} {s : Sp} : ∀ x ∈ findL g F s, I64 x := by
  unfold findL
  split
  · rename_i h
    exact numsF_i64 (by have := (rightG_is (mayB_is (hadB_is.1 h).1).1).few; omega)
  · intro x hx; cases hx
theorem findL_few {g : Gr} {F : List Int} {s : Sp} : (findL g F s).length ≤ 256 := by
  unfold findL
  split
  · rename_i h
    exact Nat.le_trans (numsF_len _ _) (rightG_is (mayB_is (hadB_is.1 h).1).1).few
  · exact Nat.zero_le _
/-- what was found, as numbers that may be asked about -/
theorem find_lask {g : Gr} {F : List Int} {s : Sp} {w : World} {A : Option Addr} {c : Nat} (h : RI w w.heap.size A (findL g F s).length (findL g F s)) (h1 : A = none → c = 0) (h2 : (findL g F s).length ≤ c) : LAsk w A (findL g F s).length c (findL g F s) :=
  ⟨h, h1, h2, Nat.le_trans findL_few (by omega), findL_i64⟩
theorem under_lask {g : Gr} {a : Int} {w : World} {A : Option Addr} {c : Nat} (h : RI w w.heap.size A (underL g a).length (underL g a)) (h1 : A = none → c = 0) (h2 : (underL g a).length ≤ c) : LAsk w A (underL g a).length c (underL g a) :=
  ⟨h, h1, h2, Nat.le_trans (underL_len _) (by omega), underL_i64 _⟩
theorem nodesL_i64 {g : Gr} : ∀ x ∈ nodesL g, I64 x := by
  unfold nodesL
  split
  · rename_i h
    exact numsF_i64 (by have := (rightG_is h).few; omega)
  · intro x hx; cases hx
theorem nodes_lask {g : Gr} {w : World} {A : Option Addr} {c : Nat} (h : RI w w.heap.size A (nodesL g).length (nodesL g)) (h1 : A = none → c = 0) (h2 : (nodesL g).length ≤ c) : LAsk w A (nodesL g).length c (nodesL g) :=
  ⟨h, h1, h2, Nat.le_trans nodesL_len (by omega), nodesL_i64⟩

end Go.Proofs.YtglboolijhekkaaDoor

namespace Go.Proofs.YtglboolijhekkaaDoor
open Go.RowKit

/-- a world that keeps all that was there in w -/
structure Later (w : World) where
  now : World
  bel : Below w.heap.size w now
instance (w : World) : Nonempty (Later w) := ⟨⟨w, Below.refl _ _⟩⟩
theorem below_drew1 (w : World) : Below w.heap.size w w.drew := bel_drew w 1
theorem wp_region_later {P : Program} {id : Nat} {Q : Exit → Act → World → Prop} {a : Act} {w : World} {l : List Oper} (hm : P.follows .mixedOrders = true) (hB : Region.lexB .any l.toArray = true)
    (h : wpQuiet P l.toArray (fun w' => ∃ p : Later w, w' = p.now) (fun a' => ∀ w', (∃ p : Later w, w' = p.now) → Q .normal a' w') l a) : (Code.region id l.toArray true).wp P Q a w :=
  wp_region_quiet (C := fun w' => ∃ p : Later w, w' = p.now) hm hB ⟨⟨w.drew, below_drew1 w⟩, rfl⟩ (by simpa using h)
theorem Calls.later_of {P : Program} {f : FuncId} {args : Array Value} {w : World} {p : Later w} {v : Value} (h : Calls P f args p.now fun e w' => e = .returned v ∧ Below p.now.heap.size p.now w') :
    Calls P f args p.now fun e w'' => e = .returned v ∧ ∃ q : Later w, w'' = q.now :=
  h.mono fun _ w' hz => ⟨hz.1, ⟨w', p.bel.trans (hz.2.mono p.bel.size)⟩, rfl⟩
theorem Later.cell {w : World} {p : Later w} {a : Addr} {v : Value} (hl : a.block < w.heap.size) (h : w.cell? a = some v) : p.now.cell? a = some v := (p.bel.cell hl).trans h

end Go.Proofs.YtglboolijhekkaaDoor

namespace Go.Proofs.YtglboolijhekkaaDoor
open Go.RowKit

def gM : Gr := [⟨0, -1, ⟨#[]⟩⟩, ⟨2, 0, ⟨#[]⟩⟩, ⟨3, 1, ⟨#[]⟩⟩, ⟨3, 1, ⟨#[]⟩⟩, ⟨2, 0, ⟨#[]⟩⟩, ⟨3, 4, ⟨#[]⟩⟩]
def sM : Sp := ⟨2, 1, 0, ⟨#[]⟩, false, 1, 0⟩
def sN : Sp := ⟨1, 2, 0, ⟨#[]⟩, false, 1, 0⟩
theorem awM_under : underL gM 0 = [0, 1, 2, 3, 4, 5] := by decide +kernel
theorem awM_find : findL gM [0, 1, 2, 3, 4, 5] sM = [2, 5] := by decide +kernel
theorem awM_had : hadB gM [0, 1, 2, 3, 4, 5] sM = true := by decide +kernel
theorem awM_could : couldL gM sN = true := by decide +kernel
theorem awM_many : manyL gM [0, 1, 2, 3, 4, 5] sN = 1 := by decide +kernel
theorem awM_i64 : ∀ x ∈ ([0, 1, 2, 3, 4, 5] : List Int), I64 x := by intro x hx; simp at hx; unfold I64; omega
theorem sM_ask : SAsk sM := ⟨i64_of (by decide) (by decide), i64_of (by decide) (by decide), i64_of (by decide) (by decide), by decide, i64_of (by decide) (by decide), i64_of (by decide) (by decide)⟩
theorem sN_ask : SAsk sN := ⟨i64_of (by decide) (by decide), i64_of (by decide) (by decide), i64_of (by decide) (by decide), by decide, i64_of (by decide) (by decide), i64_of (by decide) (by decide)⟩
theorem gM_lit (w : World) : GAsk (w.alloc (.cells #[.int .i64 0, .int .i64 (-1), .string ⟨#[]⟩, .int .i64 2, .int .i64 0, .string ⟨#[]⟩, .int .i64 3, .int .i64 1, .string ⟨#[]⟩, .int .i64 3, .int .i64 1, .string ⟨#[]⟩, .int .i64 2, .int .i64 0, .string ⟨#[]⟩, .int .i64 3, .int .i64 4, .string ⟨#[]⟩] 44)) (some ⟨w.heap.size, 0, none⟩) 6 6 gM := by
  refine ⟨⟨rfl, fun _ => ⟨w.heap.size, 0, rfl, by show w.heap.size < _; simp, fun j x hx => ?_⟩⟩, (fun h => by cases h), by omega, by omega⟩
  have hj : j < 6 := (List.getElem?_eq_some_iff.1 hx).1
  have hcell : ∀ o, (w.alloc (.cells #[.int .i64 0, .int .i64 (-1), .string ⟨#[]⟩, .int .i64 2, .int .i64 0, .string ⟨#[]⟩, .int .i64 3, .int .i64 1, .string ⟨#[]⟩, .int .i64 3, .int .i64 1, .string ⟨#[]⟩, .int .i64 2, .int .i64 0, .string ⟨#[]⟩, .int .i64 3, .int .i64 4, .string ⟨#[]⟩] 44)).cell? ⟨w.heap.size, o, none⟩ = _ := fun o => World.cell?_alloc_at (w := w) _ _ w.heap.size o rfl
  rcases (show j = 0 ∨ j = 1 ∨ j = 2 ∨ j = 3 ∨ j = 4 ∨ j = 5 by omega) with rfl | rfl | rfl | rfl | rfl | rfl
  all_goals
    simp [gM] at hx
    subst hx
    refine ⟨_, rfl, fun i v hv => ?_, rfl, by unfold I64; simp, by unfold I64; simp, by unfold maxLen; decide⟩
    have hi : i < 3 := (List.getElem?_eq_some_iff.1 hv).1
    rcases (show i = 0 ∨ i = 1 ∨ i = 2 by omega) with rfl | rfl | rfl
    all_goals
      rw [hcell]
      simp at hv ⊢
      exact hv

set_option maxRecDepth 100000 in
set_option maxHeartbeats 8000000 in
theorem awake9_any (H : MatchOk) (GO : GraphOk) (w : World) (hG : Glob w) : Calls Tryd.prog 5 #[] w fun e w' => e = .returned (.bool true) ∧ Below w.heap.size w w' := by
  have HB := Lib.hid (Below.refl w.heap.size w)
  have HG := Lib.hid hG
  clear hG
  go_enter Tryd.func5, Tryd.ntmps5
  go_wp2_with fail
  have hb := Below.alloc (Below.refl w.heap.size w) (Nat.le_refl _) (.cells #[.int .i64 0, .int .i64 (-1), .string ⟨#[]⟩, .int .i64 2, .int .i64 0, .string ⟨#[]⟩, .int .i64 3, .int .i64 1, .string ⟨#[]⟩, .int .i64 3, .int .i64 1, .string ⟨#[]⟩, .int .i64 2, .int .i64 0, .string ⟨#[]⟩, .int .i64 3, .int .i64 4, .string ⟨#[]⟩] 44)
  have FGq := Lib.hid (gM_lit w)
  have HBq := Lib.hid (HB.out.trans (hb.mono HB.out.size))
  clear HB
  have HB := HBq
  clear HBq
  have HGq := Lib.hid (HG.out.next hb)
  clear HG
  have HG := HGq
  clear HGq
  clear hb
  have FG := FGq
  clear FGq
  go_wp2_with fail
  refine (calls_ipost (GO.under _ _ _ _ 0 _ FG.out ⟨by omega, by omega⟩ HG.out) awM_under).mono ?_
  rintro e w1 ⟨⟨A1, c1, rfl, hr1, hnil1, hc1⟩, hb⟩
  have HBq := Lib.hid (HB.out.trans (hb.mono HB.out.size))
  clear HB
  have HB := HBq
  clear HBq
  have HGq := Lib.hid (HG.out.next hb)
  clear HG
  have HG := HGq
  clear HGq
  have FGq := Lib.hid (FG.out.next hb)
  clear FG
  have FG := FGq
  clear FGq
  clear hb
  have FU := Lib.hid (LAsk.mk hr1 hnil1 hc1 (by decide) awM_i64)
  clear hr1 hnil1 hc1
  go_wp2_with fail
  refine (m9_find H FG.out FU.out sM_ask HG.out awM_find awM_had).mono ?_
  rintro e w2 ⟨⟨A2, c2, rfl, hr2, hnil2, hc2⟩, hb⟩
  have HBq := Lib.hid (HB.out.trans (hb.mono HB.out.size))
  clear HB
  have HB := HBq
  clear HBq
  have HGq := Lib.hid (HG.out.next hb)
  clear HG
  have HG := HGq
  clear HGq
  have FGq := Lib.hid (FG.out.next hb)
  clear FG
  have FG := FGq
  clear FGq
  have FUq := Lib.hid (FU.out.next hb)
  clear FU
  have FU := FUq
  clear FUq
  clear hb
  have F2 := Lib.hid hr2
  clear hr2 hnil2 hc2
  obtain ⟨b0, o0, rfl, hl0, hc0⟩ := RI.one F2.out (k := 0) (by decide)
  obtain ⟨b1, o1, e1, hl1, hc1⟩ := RI.one F2.out (k := 1) (by decide)
  injection e1 with e1
  injection e1 with e2 e3
  subst e2 e3
  clear hl0 hl1 F2
  simp only [List.length_cons, List.length_nil, Nat.reduceAdd, List.getD_cons_zero, List.getD_cons_succ, Nat.add_zero] at hc0 hc1 ⊢
  go_wp2_with fail
  refine (m9_could H FG.out sN_ask HG.out awM_could).mono ?_
  rintro e w3 ⟨rfl, hb⟩
  have HBq := Lib.hid (HB.out.trans (hb.mono HB.out.size))
  clear HB
  have HB := HBq
  clear HBq
  have HGq := Lib.hid (HG.out.next hb)
  clear HG
  have HG := HGq
  clear HGq
  have FGq := Lib.hid (FG.out.next hb)
  clear FG
  have FG := FGq
  clear FGq
  have FUq := Lib.hid (FU.out.next hb)
  clear FU
  have FU := FUq
  clear FUq
  clear hb
  clear hc0 hc1
  go_wp2_with fail
  refine (calls_ipost (GO.under _ _ _ _ 0 _ FG.out ⟨by omega, by omega⟩ HG.out) awM_under).mono ?_
  rintro e w4 ⟨⟨A4, c4, rfl, hr4, hnil4, hc4⟩, hb⟩
  have HBq := Lib.hid (HB.out.trans (hb.mono HB.out.size))
  clear HB
  have HB := HBq
  clear HBq
  have HGq := Lib.hid (HG.out.next hb)
  clear HG
  have HG := HGq
  clear HGq
  have FGq := Lib.hid (FG.out.next hb)
  clear FG
  have FG := FGq
  clear FGq
  have FUq := Lib.hid (FU.out.next hb)
  clear FU
  have FU := FUq
  clear FUq
  clear hb
  have FV := Lib.hid (LAsk.mk hr4 hnil4 hc4 (by decide) awM_i64)
  clear hr4 hnil4 hc4
  go_wp2_with fail
  refine (m9_many H FG.out FV.out sN_ask HG.out awM_many).mono ?_
  rintro e w5 ⟨rfl, hb⟩
  have HBq := Lib.hid (HB.out.trans (hb.mono HB.out.size))
  clear HB
  have HB := HBq
  clear HBq
  have HGq := Lib.hid (HG.out.next hb)
  clear HG
  have HG := HGq
  clear HGq
  have FGq := Lib.hid (FG.out.next hb)
  clear FG
  have FG := FGq
  clear FGq
  have FUq := Lib.hid (FU.out.next hb)
  clear FU
  have FU := FUq
  clear FUq
  have FVq := Lib.hid (FV.out.next hb)
  clear FV
  have FV := FVq
  clear FVq
  clear hb
  go_wp2
  go_ret
  exact ⟨rfl, HB.out⟩

end Go.Proofs.YtglboolijhekkaaDoor

namespace Go.Proofs.YtglboolijhekkaaDoor

theorem numsF_front (p : Nat → Bool) {a : Nat} : ∀ {n : Nat}, a ≤ n → ∃ r, numsF p n = numsF p a ++ r := by
  intro n
  induction n with
  | zero => intro h; obtain rfl : a = 0 := by omega
            exact ⟨[], by simp⟩
  | succ n ih =>
    intro h
    by_cases ha : a = n + 1
    · subst ha; exact ⟨[], by simp⟩
    · obtain ⟨r, hr⟩ := ih (by omega)
      exact ⟨r ++ (if p n = true then [(n : Int)] else []), by rw [numsF_succ, hr, List.append_assoc]⟩
theorem numsF_gap {p : Nat → Bool} {a : Nat} : ∀ {b : Nat}, a ≤ b → (∀ y, a ≤ y → y < b → p y = false) → numsF p b = numsF p a := by
  intro b
  induction b with
  | zero => intro h _; obtain rfl : a = 0 := by omega
            rfl
  | succ b ih =>
    intro h hg
    by_cases ha : a = b + 1
    · subst ha; rfl
    · rw [numsF_no (hg b (by omega) (by omega))]
      exact ih (by omega) (fun y h1 h2 => hg y h1 (by omega))
theorem cntP_gap {p : Nat → Bool} {a b : Nat} (h : a ≤ b) (hg : ∀ y, a ≤ y → y < b → p y = false) : cntP p b = cntP p a := by
  rw [← numsF_cnt, ← numsF_cnt, numsF_gap h hg]
theorem least_from (p : Nat → Bool) (m : Nat) : ∀ d, (∃ x, m ≤ x ∧ x < m + d ∧ p x = true ∧ ∀ y, m ≤ y → y < x → p y = false) ∨ (∀ y, m ≤ y → y < m + d → p y = false)
  | 0 => .inr (fun y h1 h2 => absurd h2 (by omega))
  | d + 1 => by
    rcases least_from p m d with ⟨x, h1, h2, h3⟩ | h
    · exact .inl ⟨x, h1, by omega, h3⟩
    · cases hp : p (m + d) with
      | true => exact .inl ⟨m + d, by omega, by omega, hp, h⟩
      | false => exact .inr (fun y h1 h2 => by
          by_cases hy : y = m + d
          · subst hy; exact hp
          · exact h y h1 (by omega))
/-- the next number of the list -/
theorem take_next {p : Nat → Bool} {n i m : Nat} (hi : i < (numsF p n).length) (ht : (numsF p n).take i = numsF p m) (hm : m ≤ n) :
    ∃ x, m ≤ x ∧ x < n ∧ (numsF p n).getD i 0 = (x : Int) ∧ p x = true ∧ (∀ y, m ≤ y → y < x → p y = false) ∧ (numsF p n).take (i + 1) = numsF p (x + 1) := by
  have hl : (numsF p m).length = i := by rw [← ht, List.length_take]; omega
  rcases least_from p m (n - m) with ⟨x, h1, h2, h3, h4⟩ | h
  · have hx : x < n := by omega
    obtain ⟨r, hr⟩ := numsF_front p (a := x + 1) (n := n) (by omega)
    have e : numsF p (x + 1) = numsF p m ++ [(x : Int)] := by rw [numsF_yes h3, numsF_gap h1 h4]
    refine ⟨x, h1, hx, ?_, h3, h4, ?_⟩
    · rw [hr, e, List.getD, List.append_assoc, List.getElem?_append_right (by omega), hl, Nat.sub_self]; rfl
    · rw [hr, List.take_append_of_le_length (by rw [e, List.length_append, hl]; simp), List.take_of_length_le (by rw [e, List.length_append, hl]; simp)]
  · have := numsF_gap (p := p) hm (fun y h1 h2 => h y h1 (by omega))
    rw [this] at hi
    omega
/-- behind the last one there is none -/
theorem take_end {p : Nat → Bool} {n m : Nat} (ht : numsF p n = numsF p m) (_ : m ≤ n) : ∀ y, m ≤ y → y < n → p y = false := by
  intro y h1 h2
  cases hp : p y with
  | false => rfl
  | true =>
    have : (y : Int) ∈ numsF p m := by rw [← ht]; exact mem_numsF_nat.2 ⟨h2, hp⟩
    have := (mem_numsF_nat.1 this).1
    omega

section
variable {g : Gr} {F : List Int} {s : Sp} {k : Nat}
/-- as far as thing m: the free cores and gpus under node k, and what is got there -/
theorem fr_gap {c : Int} {m x : Nat} (h : m ≤ x) (hg : ∀ y, m ≤ y → y < x → overG g k y = false) : frN g F c k x = frN g F c k m :=
  cntP_gap h fun y h1 h2 => by unfold frP; rw [hg y h1 h2]; rfl
theorem get_gap {m x : Nat} (h : m ≤ x) (hg : ∀ y, m ≤ y → y < x → overG g k y = false) : numsF (getP g F s k) x = numsF (getP g F s k) m :=
  numsF_gap h fun y h1 h2 => by unfold getP; rw [hg y h1 h2]; rfl
theorem fr_step {c : Int} {m x : Nat} (h : m ≤ x) (hg : ∀ y, m ≤ y → y < x → overG g k y = false) (ho : overG g k x = true) : frN g F c k (x + 1) = frN g F c k m + (if hasB F (x : Int) = true ∧ gk g x = c then 1 else 0) := by
  have h1 : frN g F c k (x + 1) = frN g F c k x + (if frP g F c k x = true then 1 else 0) := cntP_succ _ _
  rw [h1, fr_gap h hg]
  congr 1
  unfold frP
  rw [ho, Bool.true_and]
  by_cases hb : hasB F (x : Int) = true ∧ gk g x = c
  · rw [if_pos hb, if_pos (by rw [hb.1, hb.2]; simp)]
  · rw [if_neg hb, if_neg (by rw [Bool.and_eq_true, beq_iff_eq]; exact hb)]
theorem get_step {m x : Nat} (h : m ≤ x) (hg : ∀ y, m ≤ y → y < x → overG g k y = false) : numsF (getP g F s k) (x + 1) = numsF (getP g F s k) m ++ (if getP g F s k x = true then [(x : Int)] else []) := by
  rw [numsF_succ, get_gap h hg]
/-- what a spec gets in a node; nothing, where it doesn't suit -/
def getsL (g : Gr) (F : List Int) (s : Sp) (k : Nat) : List Int := if suitP g F s k = true then numsF (getP g F s k) g.length else []
end

end Go.Proofs.YtglboolijhekkaaDoor
