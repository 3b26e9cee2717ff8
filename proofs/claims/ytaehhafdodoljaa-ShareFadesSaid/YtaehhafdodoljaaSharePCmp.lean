/- cmp.Compare, cmp.Or and the program's closure that orders two places. Written by gen/gen_sharep.py. -/
import Derived.Test.YtaehhafdodoljaaSharePA
import Derived.Test.YtaehhafdodoljaaNums
import Derived.Shelf.GgSortFunc.SW
import Derived.IntWalk
namespace Go.Proofs.Ytaehhafdodoljaa
open Go.RowKit

/-- which of two is less -/
def zcmp (a b : Int) : Int := if a < b then -1 else if b < a then 1 else 0
/-- the first that isn't 0 -/
def orL : List Int → Int
  | [] => 0
  | x :: r => if x ≠ 0 then x else orL r
theorem ri_any3 (x y z : Int) (w : World) : RI (w.alloc (.cells #[.int .i64 x, .int .i64 y, .int .i64 z] 3)) (w.alloc (.cells #[.int .i64 x, .int .i64 y, .int .i64 z] 3)).heap.size (some ⟨w.heap.size, 0, none⟩) 3 [x, y, z] := by
  refine ⟨rfl, fun _ => ⟨w.heap.size, 0, rfl, by simp, fun k hk => ?_⟩⟩
  rw [World.cell?_alloc_at (w := w) _ _ w.heap.size _ rfl]
  have : k = 0 ∨ k = 1 ∨ k = 2 := by omega
  rcases this with rfl | rfl | rfl <;> rfl
def cmpU (l : List Us) (a b : Nat) : Int := orL [zcmp (shareU (l.getD a us0) : Nat) (shareU (l.getD b us0) : Nat), zcmp (l.getD a us0).who (l.getD b us0).who, zcmp a b]
theorem zcmp_lt {a b : Int} (h : a < b) : zcmp a b = -1 := if_pos h
theorem zcmp_gt {a b : Int} (h : b < a) : zcmp a b = 1 := by unfold zcmp; rw [if_neg (by omega), if_pos h]
theorem zcmp_eq {a b : Int} (h : a = b) : zcmp a b = 0 := by unfold zcmp; rw [if_neg (by omega), if_neg (by omega)]
theorem or3 (x y z : Int) : orL [x, y, z] = if x ≠ 0 then x else if y ≠ 0 then y else z := by
  unfold orL orL orL
  by_cases h : z = 0 <;> simp [orL, h]
/-- a place is ahead just if the comparison is less than 0 -/
theorem cmpU_ahead (l : List Us) (a b : Nat) : decide (cmpU l a b < 0) = aheadU l a b := by
  rw [Bool.eq_iff_iff, decide_eq_true_eq]
  unfold cmpU aheadU
  rw [or3]
  generalize shareU (l.getD a us0) = x
  generalize shareU (l.getD b us0) = y
  generalize (l.getD a us0).who = p
  generalize (l.getD b us0).who = q
  rcases Nat.lt_trichotomy x y with h | h | h
  · rw [zcmp_lt (by omega : (x : Int) < y), if_pos (by omega : x ≠ y)]
    simp [h]
  · subst h
    rw [zcmp_eq rfl, if_neg (by omega : ¬ x ≠ x), if_neg (by decide)]
    rcases Int.lt_trichotomy p q with h | h | h
    · rw [zcmp_lt h, if_pos (by omega : p ≠ q)]
      simp [h]
    · subst h
      rw [zcmp_eq rfl, if_neg (by omega : ¬ p ≠ p), if_neg (by decide)]
      rcases Nat.lt_trichotomy a b with h | h | h
      · rw [zcmp_lt (by omega : (a : Int) < b)]; simp [h]
      · subst h; rw [zcmp_eq rfl]; simp
      · rw [zcmp_gt (by omega : (b : Int) < a)]; simp; omega
    · rw [zcmp_gt h, if_pos (by omega : p ≠ q)]
      simp; omega
  · rw [zcmp_gt (by omega : (y : Int) < x), if_pos (by omega : x ≠ y)]
    simp; omega
theorem cmpf_any (a b : Nat) (w : World) (ha : a ≤ 9218868437227405312) (hb : b ≤ 9218868437227405312) : Calls Try.prog 31 #[.float .f64 a, .float .f64 b] w fun e w' => e = .returned (.int .i64 (zcmp a b)) ∧ w' = w := by
  have na : (FloatKind.f64.format.order a a != some Ordering.eq) = false := by rw [fne ha ha]; simp
  have nb : (FloatKind.f64.format.order b b != some Ordering.eq) = false := by rw [fne hb hb]; simp
  have fl := flt ha hb
  have fg := fgr ha hb
  by_cases h1 : a < b
  · rw [decide_eq_true h1] at fl
    rw [zcmp_lt (by omega : (a : Int) < b)]
    clear fg h1 ha hb
    go_enter Try.func31, Try.ntmps31
    go_wp2
    go_ret
    exact ⟨rfl, rfl⟩
  · rw [decide_eq_false h1] at fl
    by_cases h2 : b < a
    · rw [decide_eq_true h2] at fg
      rw [zcmp_gt (by omega : (b : Int) < a)]
      clear h1 h2 ha hb
      go_enter Try.func31, Try.ntmps31
      go_wp2
      go_ret
      exact ⟨rfl, rfl⟩
    · rw [decide_eq_false h2] at fg
      rw [zcmp_eq (by omega : (a : Int) = b)]
      clear h1 h2 ha hb
      go_enter Try.func31, Try.ntmps31
      go_wp2
      go_ret
      exact ⟨rfl, rfl⟩
theorem cmpi_any (a b : Int) (w : World) : Calls Try.prog 32 #[.int .i64 a, .int .i64 b] w fun e w' => e = .returned (.int .i64 (zcmp a b)) ∧ w' = w := by
  by_cases h1 : a < b
  · have e : Hid (zcmp a b = -1) := Lib.hid (zcmp_lt h1)
    go_enter Try.func32, Try.ntmps32
    go_wp2
    go_ret
    exact ⟨by rw [e.out]; rfl, rfl⟩
  · by_cases h2 : b < a
    · have e : Hid (zcmp a b = 1) := Lib.hid (zcmp_gt h2)
      go_enter Try.func32, Try.ntmps32
      go_wp2
      go_ret
      exact ⟨by rw [e.out]; rfl, rfl⟩
    · have e : Hid (zcmp a b = 0) := Lib.hid (zcmp_eq (by omega))
      go_enter Try.func32, Try.ntmps32
      go_wp2
      go_ret
      exact ⟨by rw [e.out]; rfl, rfl⟩
set_option maxRecDepth 100000 in
set_option maxHeartbeats 8000000 in
theorem or_any (B : Nat) (A : Option Addr) (n c : Nat) (l : List Int) (w : World) (hr : RI w B A n l) (hn : n ≤ 1000) : Calls Try.prog 30 #[.slice A n c] w fun e w' => e = .returned (.int .i64 (orL l)) ∧ w' = w := by
  obtain ⟨z, hz⟩ : ∃ z, orL l = z := ⟨_, rfl⟩
  rw [hz]
  have HL := Lib.hid hr.1
  have HR := Lib.hid hr
  have HZ := Lib.hid hz
  clear hz hr
  go_enter Try.func30, Try.ntmps30
  go_wp2
  go_loopw [8] (fun iv wr => ∃ (k : Nat), k ≤ n ∧ iv = .int .i64 k ∧ orL (l.drop k) = z ∧ wr = w) (fun iv _ => n - (intOf iv).toNat)
  case atStart => exact ⟨0, Nat.zero_le _, rfl, HZ.out, rfl⟩
  case round =>
    obtain ⟨k, hk, rfl, hfz, rfl⟩ := hrel
    by_cases hlt : k < n
    · obtain ⟨b, off, hA, hbl, hc⟩ := HR.out.one hlt
      subst hA
      obtain ⟨x, hx⟩ : ∃ x, l.getD k 0 = x := ⟨_, rfl⟩
      have hkl : k < l.length := by rw [HL.out]; exact hlt
      have hxk : l[k] = x := by rw [← hx, List.getD, List.getElem?_eq_getElem hkl]; rfl
      rw [List.drop_eq_getElem_cons hkl, hxk] at hfz
      rw [hx] at hc
      by_cases h0 : x = 0
      · have d0 : (x != 0) = false := by rw [h0]; rfl
        have HN : Hid (orL (l.drop (k + 1)) = z) := Lib.hid (by rw [← hfz]; unfold orL; rw [if_neg (by omega)]; cases l.drop (k + 1) <;> rfl)
        clear hfz hx hxk h0 hbl
        go_wp2
        go_roundw
        case rel => exact ⟨k + 1, by omega, by go_num, HN.out, trivial⟩
        case measure => simp [intOf] <;> omega
      · have d0 : (x != 0) = true := bne_iff_ne.2 h0
        have HN : Hid (x = z) := Lib.hid (by rw [← hfz]; unfold orL; rw [if_pos h0])
        clear hfz hx hxk h0 hbl
        go_wp2
        go_ret
        exact ⟨by rw [HN.out]; rfl, rfl⟩
    · have hkn : k = n := by omega
      have HN : Hid (0 = z) := Lib.hid (by rw [← hfz, List.drop_of_length_le (by rw [HL.out]; omega)]; rfl)
      clear hfz hkn
      go_wp2
      go_ret
      exact ⟨by rw [← HN.out]; rfl, rfl⟩

end Go.Proofs.Ytaehhafdodoljaa
