/- The reference's lists of a graph (bailiwickref05): Under, Above, Node, Whole: what they answer of any list of things. -/
import Derived.Test.YtokjinihdanhbaaGraphReads
import Derived.Test.YtokjinihdanhbaaNums
namespace Go.Proofs.Ytokjinihdanhbaa
open Go.RowKit

theorem refRightG_b {A : Option Addr} {n c : Nat} {g : Gr} {w : World} {b : Bool} (hr : RG w w.heap.size A n g) (hn : n ≤ maxLen) (h : rightG g = b) :
    Calls Try.prog 8 #[.slice A n c] w fun e w' => e = .returned (.bool b) ∧ Below w.heap.size w w' := by
  subst h; exact refRightG_any A n c g w hr hn

set_option maxRecDepth 100000 in
set_option maxHeartbeats 2000000 in
theorem refUnderG_any (A : Option Addr) (n c : Nat) (g : Gr) (a : Int) (w : World) (hr : RG w w.heap.size A n g) (hn : n ≤ maxLen) :
    Calls Try.prog 11 #[.slice A n c, .int .i64 a] w (IPost (underL g a) w) := by
  have HN := Lib.hid hn
  unfold maxLen at hn
  have HR := Lib.hid hr
  clear hr
  obtain ⟨i0, hi0, hz0, hz1, hz2⟩ := info_parts int_info
  by_cases h0 : a < 0
  · have e0 : underL g a = [] := by unfold underL; rw [if_neg (fun h => by omega)]
    rw [e0]
    go_enter Try.func11, Try.ntmps11
    go_wp2
    go_ret
    exact ipost_nil (Below.refl _ _)
  · by_cases h1 : (n : Int) ≤ a
    · have e0 : underL g a = [] := by unfold underL; rw [if_neg (fun h => by have := HR.out.len; omega)]
      rw [e0]
      have h0d : decide (a < 0) = false := by simpa using h0
      go_enter Try.func11, Try.ntmps11
      go_wp2
      go_ret
      exact ipost_nil (Below.refl _ _)
    · cases hg : rightG g with
      | false =>
        have e0 : underL g a = [] := by unfold underL; rw [if_neg (fun h => Bool.noConfusion (hg.symm.trans h.1))]
        rw [e0]
        have HG := Lib.hid hg
        have h0d : decide (a < 0) = false := by simpa using h0
        have h1d : decide ((n : Int) ≤ a) = false := by simpa using h1
        clear hg e0
        go_enter Try.func11, Try.ntmps11
        go_wp2_with fail
        refine (refRightG_b HR.out HN.out HG.out).mono ?_
        rintro e w1 ⟨rfl, hb⟩
        have HB := Lib.hid hb
        clear hb
        go_wp2
        go_ret
        exact ipost_nil HB.out
      | true =>
        obtain ⟨k0, rfl⟩ : ∃ k0 : Nat, a = (k0 : Int) := ⟨a.toNat, by omega⟩
        have hk0 : k0 < n := by omega
        have HGR := Lib.hid (rightG_is hg)
        have hn256 : n ≤ 256 := by have := HGR.out.few; have := HR.out.len; omega
        have HG := Lib.hid hg
        have h0d : decide ((k0 : Int) < 0) = false := by simp
        have h1d : decide (n ≤ k0) = false := by simp; omega
        clear h0 h1 hg
        have e0 : underL g (k0 : Int) = numsF (overG g k0) n := by unfold underL; rw [if_pos ⟨HG.out, by omega, by have := HR.out.len; omega⟩, Int.toNat_natCast, HR.out.len]
        rw [e0]
        clear e0
        go_enter Try.func11, Try.ntmps11
        go_wp2_with fail
        refine (refRightG_b HR.out HN.out HG.out).mono ?_
        rintro e w1 ⟨rfl, hb⟩
        have HB := Lib.hid hb
        have HR1 := Lib.hid (HR.out.next hb)
        clear hb
        go_wp2
        go_loopw [5, 6] (fun v i wr => ∃ k : Nat, k ≤ n ∧ i = .int .i64 k ∧ ON EI 1 3 w1 v (numsF (overG g k0) k) wr) (fun _ i _ => n - (intOf i).toNat)
        case atStart => exact ⟨0, Nat.zero_le _, rfl, ON.nil _⟩
        case round =>
          obtain ⟨k, hk, rfl, hf⟩ := hrel
          have HFk := Lib.hid hf
          clear hf
          by_cases hlt : k < n
          · have hlen : Hid ((numsF (overG g k0) k).length ≤ 1000) := Lib.hid (by have := numsF_len (overG g k0) k; omega)
            have HRk := Lib.hid (HR1.out.next HFk.out.below)
            cases ho : overG g k0 k with
            | true =>
              have HS := Lib.hid (numsF_yes ho)
              have HO := Lib.hid ho
              clear ho
              go_wp2_with fail
              refine (refOver_b HRk.out HGR.out hlt HO.out).mono ?_
              rintro e w3 ⟨rfl, rfl⟩
              go_wp2_with (at_builtin; refine wpList_append_EI rfl (.tmp 30) (.tmp 32) 23 3 rfl HFk.out i0 Try.underlying23 hi0 hz0 hz1 hz2 rfl _ rfl hlen.out ?_; intro v' w4 hON4; refine Hid.out ?_)
              refine Lib.hid ?_
              have HO4 := Lib.hid hON4
              clear hON4
              go_wp2
              go_roundw
              case rel => exact ⟨k + 1, by omega, by go_num, by rw [HS.out]; exact HO4.out⟩
              case measure => simp [intOf]; omega
            | false =>
              have HS := Lib.hid (numsF_no ho)
              have HO := Lib.hid ho
              clear ho
              go_wp2_with fail
              refine (refOver_b HRk.out HGR.out hlt HO.out).mono ?_
              rintro e w3 ⟨rfl, rfl⟩
              go_wp2
              go_roundw
              case rel => exact ⟨k + 1, by omega, by go_num, by rw [HS.out]; exact HFk.out⟩
              case measure => simp [intOf]; omega
          · have hkn : k = n := by omega
            subst hkn
            go_wp2
            go_ret
            exact HFk.out.ipost.trans HB.out

set_option maxRecDepth 100000 in
set_option maxHeartbeats 2000000 in
theorem refAboveG_any (A : Option Addr) (n c : Nat) (g : Gr) (a : Int) (w : World) (hr : RG w w.heap.size A n g) (hn : n ≤ maxLen) :
    Calls Try.prog 13 #[.slice A n c, .int .i64 a] w (IPost (aboveL g a) w) := by
  have HN := Lib.hid hn
  unfold maxLen at hn
  have HR := Lib.hid hr
  clear hr
  obtain ⟨i0, hi0, hz0, hz1, hz2⟩ := info_parts int_info
  by_cases h0 : a < 0
  · have e0 : aboveL g a = [] := by unfold aboveL; rw [if_neg (fun h => by omega)]
    rw [e0]
    go_enter Try.func13, Try.ntmps13
    go_wp2
    go_ret
    exact ipost_nil (Below.refl _ _)
  · by_cases h1 : (n : Int) ≤ a
    · have e0 : aboveL g a = [] := by unfold aboveL; rw [if_neg (fun h => by have := HR.out.len; omega)]
      rw [e0]
      have h0d : decide (a < 0) = false := by simpa using h0
      go_enter Try.func13, Try.ntmps13
      go_wp2
      go_ret
      exact ipost_nil (Below.refl _ _)
    · cases hg : rightG g with
      | false =>
        have e0 : aboveL g a = [] := by unfold aboveL; rw [if_neg (fun h => Bool.noConfusion (hg.symm.trans h.1))]
        rw [e0]
        have HG := Lib.hid hg
        have h0d : decide (a < 0) = false := by simpa using h0
        have h1d : decide ((n : Int) ≤ a) = false := by simpa using h1
        clear hg e0
        go_enter Try.func13, Try.ntmps13
        go_wp2_with fail
        refine (refRightG_b HR.out HN.out HG.out).mono ?_
        rintro e w1 ⟨rfl, hb⟩
        have HB := Lib.hid hb
        clear hb
        go_wp2
        go_ret
        exact ipost_nil HB.out
      | true =>
        obtain ⟨k0, rfl⟩ : ∃ k0 : Nat, a = (k0 : Int) := ⟨a.toNat, by omega⟩
        have hk0 : k0 < n := by omega
        have HGR := Lib.hid (rightG_is hg)
        have hn256 : n ≤ 256 := by have := HGR.out.few; have := HR.out.len; omega
        have HG := Lib.hid hg
        have h0d : decide ((k0 : Int) < 0) = false := by simp
        have h1d : decide (n ≤ k0) = false := by simp; omega
        clear h0 h1 hg
        have e0 : aboveL g (k0 : Int) = numsF (fun k => overG g k k0) (k0 + 1) := by unfold aboveL; rw [if_pos ⟨HG.out, by omega, by have := HR.out.len; omega⟩, Int.toNat_natCast]
        rw [e0]
        clear e0
        go_enter Try.func13, Try.ntmps13
        go_wp2_with fail
        refine (refRightG_b HR.out HN.out HG.out).mono ?_
        rintro e w1 ⟨rfl, hb⟩
        have HB := Lib.hid hb
        have HR1 := Lib.hid (HR.out.next hb)
        clear hb
        go_wp2
        go_loopw [5, 6] (fun v i wr => ∃ k : Nat, k ≤ k0 + 1 ∧ i = .int .i64 k ∧ ON EI 1 3 w1 v (numsF (fun k => overG g k k0) k) wr) (fun _ i _ => k0 + 1 - (intOf i).toNat)
        case atStart => exact ⟨0, Nat.zero_le _, rfl, ON.nil _⟩
        case round =>
          obtain ⟨k, hk, rfl, hf⟩ := hrel
          have HFk := Lib.hid hf
          clear hf
          by_cases hlt : k < k0 + 1
          · have hlen : Hid ((numsF (fun k => overG g k k0) k).length ≤ 1000) := Lib.hid (by have := numsF_len (fun k => overG g k k0) k; omega)
            have HRk := Lib.hid (HR1.out.next HFk.out.below)
            cases ho : overG g k k0 with
            | true =>
              have HS := Lib.hid (numsF_yes (p := fun k => overG g k k0) ho)
              have HO := Lib.hid ho
              clear ho
              go_wp2_with fail
              refine (refOver_b HRk.out HGR.out hk0 HO.out).mono ?_
              rintro e w3 ⟨rfl, rfl⟩
              go_wp2_with (at_builtin; refine wpList_append_EI rfl (.tmp 29) (.tmp 31) 23 3 rfl HFk.out i0 Try.underlying23 hi0 hz0 hz1 hz2 rfl _ rfl hlen.out ?_; intro v' w4 hON4; refine Hid.out ?_)
              refine Lib.hid ?_
              have HO4 := Lib.hid hON4
              clear hON4
              go_wp2
              go_roundw
              case rel => exact ⟨k + 1, by omega, by go_num, by rw [HS.out]; exact HO4.out⟩
              case measure => simp [intOf]; omega
            | false =>
              have HS := Lib.hid (numsF_no (p := fun k => overG g k k0) ho)
              have HO := Lib.hid ho
              clear ho
              go_wp2_with fail
              refine (refOver_b HRk.out HGR.out hk0 HO.out).mono ?_
              rintro e w3 ⟨rfl, rfl⟩
              go_wp2
              go_roundw
              case rel => exact ⟨k + 1, by omega, by go_num, by rw [HS.out]; exact HFk.out⟩
              case measure => simp [intOf]; omega
          · have hkn : k = k0 + 1 := by omega
            subst hkn
            go_wp2
            go_ret
            exact HFk.out.ipost.trans HB.out

set_option maxRecDepth 100000 in
set_option maxHeartbeats 2000000 in
theorem refNodeG_any (A : Option Addr) (n c : Nat) (g : Gr) (a : Int) (w : World) (hr : RG w w.heap.size A n g) (hn : n ≤ maxLen) :
    Calls Try.prog 15 #[.slice A n c, .int .i64 a] w fun e w' => e = .returned (.int .i64 (nodeG g a)) ∧ Below w.heap.size w w' := by
  have HN := Lib.hid hn
  unfold maxLen at hn
  have HR := Lib.hid hr
  clear hr
  by_cases h0 : a < 0
  · have e0 : nodeG g a = -1 := by unfold nodeG; rw [if_neg (fun h => by omega)]
    rw [e0]
    go_enter Try.func15, Try.ntmps15
    go_wp2
    go_ret
    exact ⟨rfl, Below.refl _ _⟩
  · by_cases h1 : (n : Int) ≤ a
    · have e0 : nodeG g a = -1 := by unfold nodeG; rw [if_neg (fun h => by have := HR.out.len; omega)]
      rw [e0]
      have h0d : decide (a < 0) = false := by simpa using h0
      go_enter Try.func15, Try.ntmps15
      go_wp2
      go_ret
      exact ⟨rfl, Below.refl _ _⟩
    · cases hg : rightG g with
      | false =>
        have e0 : nodeG g a = -1 := by unfold nodeG; rw [if_neg (fun h => Bool.noConfusion (hg.symm.trans h.1))]
        rw [e0]
        have HG := Lib.hid hg
        have h0d : decide (a < 0) = false := by simpa using h0
        have h1d : decide ((n : Int) ≤ a) = false := by simpa using h1
        clear hg e0
        go_enter Try.func15, Try.ntmps15
        go_wp2_with fail
        refine (refRightG_b HR.out HN.out HG.out).mono ?_
        rintro e w1 ⟨rfl, hb⟩
        have HB := Lib.hid hb
        clear hb
        go_wp2
        go_ret
        exact ⟨rfl, HB.out⟩
      | true =>
        obtain ⟨k0, rfl⟩ : ∃ k0 : Nat, a = (k0 : Int) := ⟨a.toNat, by omega⟩
        have hk0 : k0 < n := by omega
        have HGR := Lib.hid (rightG_is hg)
        have hn256 : n ≤ 256 := by have := HGR.out.few; have := HR.out.len; omega
        have HG := Lib.hid hg
        have h0d : decide ((k0 : Int) < 0) = false := by simp
        have h1d : decide (n ≤ k0) = false := by simp; omega
        clear h0 h1 hg
        have e0 : Hid (nodeG g (k0 : Int) = if gk g k0 = 2 then (k0 : Int) else if 2 < gk g k0 then gu g k0 else -1) := Lib.hid (by unfold nodeG; rw [if_pos ⟨HG.out, by omega, by have := HR.out.len; omega⟩, Int.toNat_natCast])
        obtain ⟨r, hr0⟩ : ∃ r, nodeG g (k0 : Int) = r := ⟨_, rfl⟩
        rw [hr0] at e0 ⊢
        clear hr0
        go_enter Try.func15, Try.ntmps15
        go_wp2_with fail
        refine (refRightG_b HR.out HN.out HG.out).mono ?_
        rintro e w1 ⟨rfl, hb⟩
        have HB := Lib.hid hb
        have HR1 := Lib.hid (HR.out.next hb)
        clear hb
        obtain ⟨b, off, rfl, _, hc0, hc1, _, _⟩ := HR1.out.one hk0
        generalize gk g k0 = q at *
        generalize gu g k0 = u at *
        by_cases h2 : q = 2
        · obtain rfl : r = k0 := by rw [e0.out, if_pos h2]
          subst h2
          go_wp2
          go_ret
          exact ⟨rfl, HB.out⟩
        · have h2d : (q == 2) = false := by simpa using h2
          by_cases h3 : 2 < q
          · obtain rfl : r = u := by rw [e0.out, if_neg h2, if_pos h3]
            go_wp2
            go_ret
            exact ⟨rfl, HB.out⟩
          · obtain rfl : r = -1 := by rw [e0.out, if_neg h2, if_neg h3]
            have h3d : decide (2 < q) = false := by simpa using h3
            go_wp2
            go_ret
            exact ⟨rfl, HB.out⟩

end Go.Proofs.Ytokjinihdanhbaa
