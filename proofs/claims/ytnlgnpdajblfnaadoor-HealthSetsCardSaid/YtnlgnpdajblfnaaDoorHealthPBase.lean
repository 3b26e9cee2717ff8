/- The program's slices.Clone (of numbers), known, thing, Right of layer 6 (health): what they answer of any list of things and numbers. -/
import Derived.Test.YtnlgnpdajblfnaaDoorHealthFace
import Derived.Test.YtnlgnpdajblfnaaDoorGraphPRight
import Derived.Lib.SliceRun
namespace Go.Proofs.YtnlgnpdajblfnaaDoor
open Go.RowKit

set_option maxRecDepth 100000 in
set_option maxHeartbeats 2000000 in
/-- a clone of numbers lies in memory of its own -/
theorem clone_any (A : Option Addr) (n c : Nat) (xs : List Int) (w : World) (hr : RI w w.heap.size A n xs) (hnil : A = none → c = 0) (hn : n ≤ 1000) :
    Calls Tryd.prog 30 #[.slice A n c] w fun e w' => ∃ v, e = .returned v ∧ ON EI 1 3 w v xs w' := by
  obtain ⟨i0, hi0, hz0, hz1, hz2⟩ := info_parts int_info
  have HR := Lib.hid hr
  cases A with
  | none =>
    obtain rfl := hnil rfl
    have hn0 : n = 0 := by
      rcases Nat.eq_zero_or_pos n with h0 | h0
      · exact h0
      · obtain ⟨b, off, e', _⟩ := hr.2 h0; cases e'
    subst hn0
    have hxs : Hid (xs = []) := Lib.hid (List.eq_nil_of_length_eq_zero hr.1)
    have q22 : ∀ (w : World) (a : Option Addr) (n c n' c' : Nat), (binOp .eql 23 (.slice a n c) (.slice none n' c')).run Tryd.prog w = .ok (.bool a.isNone) w := fun w a n c n' c' => Lib.run_eql_slice_nil w _ _ a n c n' c' Tryd.underlying23
    clear hr hnil hn
    go_enter Tryd.func30, Tryd.ntmps30
    go_wp2
    go_ret
    exact ⟨_, rfl, by rw [hxs.out]; exact ON.nil _⟩
  | some ad =>
    have q22 : ∀ (w : World) (a : Option Addr) (n c n' c' : Nat), (binOp .eql 23 (.slice a n c) (.slice none n' c')).run Tryd.prog w = .ok (.bool a.isNone) w := fun w a n c n' c' => Lib.run_eql_slice_nil w _ _ a n c n' c' Tryd.underlying23
    clear hr hnil
    have HR1 : Hid (RI (w.alloc (.cells #[] 3)) (w.alloc (.cells #[] 3)).heap.size (some ad) n xs) := Lib.hid (HR.out.next ((Below.refl _ _).alloc (Nat.le_refl _) _))
    go_enter Tryd.func30, Tryd.ntmps30
    go_wp2_with (at_builtin; refine wpList_append_RI _ rfl _ _ 23 rfl w.heap.size 3 i0 (.int .i64 0) 8 Tryd.underlying23 hi0 hz0 hz1 hz2 rfl (.slice (some ⟨w.heap.size, 0, none⟩) 0 0) 0 [] rfl (World.ownsRow_made w #[] 0 (Nat.le_refl _) (Nat.zero_le _) rfl) _ _ n c xs rfl HR1.out (fun e => by cases e) (by unfold maxLen; omega) (by omega) (by simp) ?_; intro v' w1 hown hgrow; refine Hid.out ?_)
    refine Lib.hid ?_
    have HO : Hid (ON EI 1 3 w v' xs w1) := Lib.hid (own_on (by have h := hown; have hl := HR.out.1; rw [Nat.zero_add, List.nil_append] at h; rw [hl]; exact h) (((Below.refl _ w).alloc (Nat.le_refl _) _).grown hgrow (by simp) (by intro k hk; have hk' : w.heap.size = k := (by simpa [Value.ownBlock] using hk); omega)))
    clear hown hgrow
    go_wp2
    go_ret
    exact ⟨_, rfl, HO.out⟩

def knownB (a : Int) : Bool := decide (0 ≤ a ∧ a ≤ 2)
set_option maxRecDepth 100000 in
theorem known_any (a : Int) (w : World) : Calls Tryd.prog 20 #[.int .i64 a] w fun e w' => e = .returned (.bool (knownB a)) ∧ w = w' := by
  by_cases h : 0 ≤ a ∧ a ≤ 2
  · have e1 : Hid (knownB a = true) := Lib.hid (decide_eq_true h)
    rcases (show a = 0 ∨ a = 1 ∨ a = 2 by omega) with rfl | rfl | rfl
    all_goals
      clear h
      go_enter Tryd.func20, Tryd.ntmps20
      go_wp2
      go_ret
      exact ⟨ret_bool e1.out, rfl⟩
  · have e1 : Hid (knownB a = false) := Lib.hid (decide_eq_false h)
    have f0 : (a == 0) = false := by simp; intro e; exact h (by omega)
    have f1 : (a == 1) = false := by simp; intro e; exact h (by omega)
    have f2 : (a == 2) = false := by simp; intro e; exact h (by omega)
    clear h
    go_enter Tryd.func20, Tryd.ntmps20
    go_wp2
    go_ret
    exact ⟨ret_bool e1.out, rfl⟩
theorem known_b {a : Int} {w : World} {b : Bool} (h : knownB a = b) : Calls Tryd.prog 20 #[.int .i64 a] w fun e w' => e = .returned (.bool b) ∧ w = w' := by
  subst h; exact known_any a w

def isThing (g : Gr) (a : Int) : Bool := decide (0 ≤ a ∧ a < g.length)
set_option maxRecDepth 100000 in
theorem thing_any (A : Option Addr) (n c : Nat) (g : Gr) (a : Int) (w : World) (hl : g.length = n) :
    Calls Tryd.prog 31 #[.slice A n c, .int .i64 a] w fun e w' => e = .returned (.bool (isThing g a)) ∧ w = w' := by
  have HL := Lib.hid hl
  clear hl
  by_cases h0 : 0 ≤ a
  · have h0d : decide (0 ≤ a) = true := by simpa using h0
    by_cases h1 : a < n
    · have h1d : decide (a < (n : Int)) = true := by simpa using h1
      have e1 : Hid (isThing g a = true) := Lib.hid (decide_eq_true ⟨h0, by rw [HL.out]; exact h1⟩)
      go_enter Tryd.func31, Tryd.ntmps31
      go_wp2
      go_ret
      exact ⟨ret_bool e1.out, rfl⟩
    · have h1d : decide (a < (n : Int)) = false := by simpa using h1
      have e1 : Hid (isThing g a = false) := Lib.hid (decide_eq_false (fun h => h1 (by have := HL.out; omega)))
      go_enter Tryd.func31, Tryd.ntmps31
      go_wp2
      go_ret
      exact ⟨ret_bool e1.out, rfl⟩
  · have h0d : decide (0 ≤ a) = false := by simpa using h0
    have e1 : Hid (isThing g a = false) := Lib.hid (decide_eq_false (fun h => h0 h.1))
    go_enter Tryd.func31, Tryd.ntmps31
    go_wp2
    go_ret
    exact ⟨ret_bool e1.out, rfl⟩
theorem thing_b {A : Option Addr} {n c : Nat} {g : Gr} {a : Int} {w : World} {b : Bool} (hl : g.length = n) (h : isThing g a = b) :
    Calls Tryd.prog 31 #[.slice A n c, .int .i64 a] w fun e w' => e = .returned (.bool b) ∧ w = w' := by
  subst h; exact thing_any A n c g a w hl

set_option maxRecDepth 100000 in
set_option maxHeartbeats 4000000 in
theorem rightH_any (A : Option Addr) (n c : Nat) (A2 : Option Addr) (n2 c2 : Nat) (g : Gr) (h : List Int) (w : World) (hr : RG w w.heap.size A n g) (hn : n ≤ maxLen) (hr2 : RI w w.heap.size A2 n2 h) (hn2 : n2 ≤ maxLen) :
    Calls Tryd.prog 6 #[.slice A n c, .slice A2 n2 c2] w fun e w' => e = .returned (.bool (rightH g h)) ∧ Below w.heap.size w w' := by
  have HN := Lib.hid hn
  unfold maxLen at hn hn2
  have HR := Lib.hid hr
  have HI := Lib.hid hr2
  clear hr hr2
  by_cases hnn : n2 = n
  · subst hnn
    have eL : Hid (decide (g.length = h.length) = true) := Lib.hid (by rw [HR.out.len, HI.out.1]; exact decide_eq_true rfl)
    cases hg : rightG g with
    | false =>
      have e1 : Hid (rightH g h = false) := Lib.hid (by unfold rightH; rw [hg, Bool.false_and, Bool.and_false])
      have HG := Lib.hid hg
      clear hg
      go_enter Tryd.func6, Tryd.ntmps6
      go_wp2_with fail
      refine (graphRight_b HR.out HN.out HG.out).mono ?_
      rintro e w1 ⟨rfl, hb⟩
      have HB := Lib.hid hb
      clear hb
      go_wp2
      go_ret
      exact ⟨ret_bool e1.out, HB.out⟩
    | true =>
      have HG := Lib.hid hg
      clear hg
      go_enter Tryd.func6, Tryd.ntmps6
      go_wp2_with fail
      refine (graphRight_b HR.out HN.out HG.out).mono ?_
      rintro e w1 ⟨rfl, hb⟩
      have HB := Lib.hid hb
      have HI1 := Lib.hid (HI.out.next hb)
      clear hb
      go_wp2
      go_loop [19] (fun i => ∃ k : Nat, k ≤ n2 ∧ i = .int .i64 k ∧ ∀ j, j < k → 0 ≤ h.getD j 0 ∧ h.getD j 0 ≤ 2) (fun i => n2 - (intOf i).toNat)
      case atStart => exact ⟨0, Nat.zero_le _, rfl, fun j hj => absurd hj (by omega)⟩
      case round =>
        obtain ⟨k, hk, rfl, hpre⟩ := hrel
        have HP := Lib.hid hpre
        clear hpre
        by_cases hlt : k < n2
        · obtain ⟨b, off, rfl, _, hc⟩ := HI1.out.one hlt
          obtain ⟨x, hx⟩ : ∃ x, h.getD k 0 = x := ⟨_, rfl⟩
          rw [hx] at hc
          have HX := Lib.hid hx
          clear hx
          cases hkn : knownB x with
          | true =>
            have hgood := of_decide_eq_true hkn
            have e1 : Hid (∀ j, j < k + 1 → 0 ≤ h.getD j 0 ∧ h.getD j 0 ≤ 2) := Lib.hid (by
              intro j hj
              rcases Nat.lt_or_ge j k with h' | h'
              · exact HP.out j h'
              · obtain rfl : j = k := by omega
                rw [HX.out]; exact hgood)
            have HK := Lib.hid hkn
            clear hkn hgood
            go_wp2_with fail
            refine (known_b HK.out).mono ?_
            rintro e w2 ⟨rfl, rfl⟩
            go_wp2
            go_round
            case rel => exact ⟨k + 1, by omega, by go_num, e1.out⟩
            case measure => simp [intOf]; omega
          | false =>
            have hbad := of_decide_eq_false hkn
            have e1 : Hid (rightH g h = false) := Lib.hid (by unfold rightH; rw [rightHB_no (by rw [HI.out.1]; exact hlt) (by rw [HX.out]; exact hbad)]; rfl)
            have HK := Lib.hid hkn
            clear hkn hbad
            go_wp2_with fail
            refine (known_b HK.out).mono ?_
            rintro e w2 ⟨rfl, rfl⟩
            go_wp2
            go_ret
            exact ⟨ret_bool e1.out, HB.out⟩
        · have hkn : k = n2 := by omega
          have e1 : Hid (rightH g h = true) := Lib.hid (by
            unfold rightH
            rw [HG.out, eL.out, rightHB_yes (fun j hj => HP.out j (by rw [HI.out.1] at hj; omega))]
            rfl)
          clear HP
          go_wp2
          go_ret
          exact ⟨ret_bool e1.out, HB.out⟩
  · have e1 : Hid (rightH g h = false) := Lib.hid (by unfold rightH; rw [decide_eq_false (fun e => hnn (by rw [HR.out.len, HI.out.1] at e; omega)), Bool.and_false, Bool.and_false])
    have hne : ((n2 : Int) == (n : Int)) = false := by simp; omega
    have hne' : ((n2 : Int) != (n : Int)) = true := by simp; omega
    go_enter Tryd.func6, Tryd.ntmps6
    go_wp2
    go_ret
    exact ⟨ret_bool e1.out, Below.refl _ _⟩
theorem rightH_b {A : Option Addr} {n c : Nat} {A2 : Option Addr} {n2 c2 : Nat} {g : Gr} {h : List Int} {w : World} {b : Bool} (hr : RG w w.heap.size A n g) (hn : n ≤ maxLen) (hr2 : RI w w.heap.size A2 n2 h) (hn2 : n2 ≤ maxLen) (e : rightH g h = b) :
    Calls Tryd.prog 6 #[.slice A n c, .slice A2 n2 c2] w fun e w' => e = .returned (.bool b) ∧ Below w.heap.size w w' := by
  subst e; exact rightH_any A n c A2 n2 c2 g h w hr hn hr2 hn2

end Go.Proofs.YtnlgnpdajblfnaaDoor
