/- The reference's functions of layer 6 (bailiwickref06): Worst, Set, Below: what they answer of any list of things and numbers. -/
import Derived.Test.YtnlgnpdajblfnaaHealthRef
namespace Go.Proofs.Ytnlgnpdajblfnaa
open Go.RowKit

set_option maxRecDepth 100000 in
set_option maxHeartbeats 2000000 in
theorem refWorstH_any (A : Option Addr) (n c : Nat) (A2 : Option Addr) (n2 c2 : Nat) (g : Gr) (h : List Int) (a : Int) (w : World) (hr : RG w w.heap.size A n g) (hn : n ≤ maxLen) (hr2 : RI w w.heap.size A2 n2 h) (hn2 : n2 ≤ maxLen) :
    Calls Try.prog 16 #[.slice A n c, .slice A2 n2 c2, .int .i64 a] w fun e w' => e = .returned (.int .i64 (worstL g h a)) ∧ Below w.heap.size w w' := by
  have HN := Lib.hid hn
  have HN2 := Lib.hid hn2
  unfold maxLen at hn hn2
  have HR := Lib.hid hr
  have HI := Lib.hid hr2
  clear hr hr2
  cases hok : rightH g h with
  | false =>
    have e0 : worstL g h a = 2 := by unfold worstL; rw [if_neg (fun h' => Bool.noConfusion (hok.symm.trans h'.1))]
    rw [e0]
    have HH := Lib.hid hok
    clear hok e0
    go_enter Try.func16, Try.ntmps16
    go_wp2_with fail
    refine (refRightH_b HR.out HN.out HI.out HN2.out HH.out).mono ?_
    rintro e w1 ⟨rfl, hb⟩
    have HB := Lib.hid hb
    clear hb
    go_wp2
    go_ret
    exact ⟨rfl, HB.out⟩
  | true =>
    have hl := (rightH_is hok).2.1
    have HH := Lib.hid hok
    by_cases h0 : a < 0
    · have e0 : worstL g h a = 2 := by unfold worstL; rw [if_neg (fun h' => by omega)]
      rw [e0]
      clear hok e0 hl
      go_enter Try.func16, Try.ntmps16
      go_wp2_with fail
      refine (refRightH_b HR.out HN.out HI.out HN2.out HH.out).mono ?_
      rintro e w1 ⟨rfl, hb⟩
      have HB := Lib.hid hb
      clear hb
      go_wp2
      go_ret
      exact ⟨rfl, HB.out⟩
    · by_cases h1 : (n2 : Int) ≤ a
      · have e0 : worstL g h a = 2 := by unfold worstL; rw [if_neg (fun h' => by have := HI.out.1; omega)]
        rw [e0]
        have h0d : decide (a < 0) = false := by simpa using h0
        clear hok e0 hl
        go_enter Try.func16, Try.ntmps16
        go_wp2_with fail
        refine (refRightH_b HR.out HN.out HI.out HN2.out HH.out).mono ?_
        rintro e w1 ⟨rfl, hb⟩
        have HB := Lib.hid hb
        clear hb
        go_wp2
        go_ret
        exact ⟨rfl, HB.out⟩
      · obtain ⟨k, rfl⟩ : ∃ k : Nat, a = (k : Int) := ⟨a.toNat, by omega⟩
        have hk : k < n := by have := HI.out.1; have := HR.out.len; omega
        have e0 : worstL g h (k : Int) = worstG g h k := by unfold worstL; rw [if_pos ⟨hok, by omega, by have := HI.out.1; omega⟩, Int.toNat_natCast]
        rw [e0]
        have h0d : decide ((k : Int) < 0) = false := by simp
        have h1d : decide (n2 ≤ k) = false := by simp; omega
        clear hok e0 hl h0 h1
        go_enter Try.func16, Try.ntmps16
        go_wp2_with fail
        refine (refRightH_b HR.out HN.out HI.out HN2.out HH.out).mono ?_
        rintro e w1 ⟨rfl, hb⟩
        have HB := Lib.hid hb
        clear hb
        have HR1 := Lib.hid (HR.out.next HB.out)
        have HI1 := Lib.hid (HI.out.next HB.out)
        go_wp2_with fail
        refine (refworst_any _ _ _ _ _ _ g h k _ _ HR1.out HI1.out HH.out hk).mono ?_
        rintro e w2 ⟨rfl, rfl⟩
        go_wp2
        go_ret
        exact ⟨rfl, HB.out⟩

set_option maxRecDepth 100000 in
set_option maxHeartbeats 2000000 in
theorem refBelowH_any (A : Option Addr) (n c : Nat) (A2 : Option Addr) (n2 c2 : Nat) (g : Gr) (h : List Int) (m : Int) (w : World) (hr : RG w w.heap.size A n g) (hn : n ≤ maxLen) (hr2 : RI w w.heap.size A2 n2 h) (hn2 : n2 ≤ maxLen) :
    Calls Try.prog 17 #[.slice A n c, .slice A2 n2 c2, .int .i64 m] w (IPost (belowL g h m) w) := by
  have HN := Lib.hid hn
  have HN2 := Lib.hid hn2
  unfold maxLen at hn hn2
  have HR := Lib.hid hr
  have HI := Lib.hid hr2
  clear hr hr2
  obtain ⟨i0, hi0, hz0, hz1, hz2⟩ := info_parts int_info
  cases hok : rightH g h with
  | false =>
    have e0 : belowL g h m = [] := by unfold belowL; rw [if_neg (by rw [hok]; simp)]
    rw [e0]
    have HH := Lib.hid hok
    clear hok e0
    go_enter Try.func17, Try.ntmps17
    go_wp2_with fail
    refine (refRightH_b HR.out HN.out HI.out HN2.out HH.out).mono ?_
    rintro e w1 ⟨rfl, hb⟩
    have HB := Lib.hid hb
    clear hb
    go_wp2
    go_ret
    exact ipost_nil HB.out
  | true =>
    have hn256 : n ≤ 256 := by have := (rightG_is (rightH_is hok).1).few; have := HR.out.len; omega
    rw [belowL_is hok, HR.out.len]
    have HH := Lib.hid hok
    clear hok
    obtain ⟨P, hP⟩ : ∃ P : Nat → Bool, P = fun k => decide (worstG g h k ≤ m) := ⟨_, rfl⟩
    rw [← hP]
    have HP : Hid (∀ k, P k = decide (worstG g h k ≤ m)) := Lib.hid (fun k => by rw [hP])
    clear hP
    go_enter Try.func17, Try.ntmps17
    go_wp2_with fail
    refine (refRightH_b HR.out HN.out HI.out HN2.out HH.out).mono ?_
    rintro e w1 ⟨rfl, hb⟩
    have HB := Lib.hid hb
    clear hb
    have HR1 := Lib.hid (HR.out.next HB.out)
    have HI1 := Lib.hid (HI.out.next HB.out)
    go_wp2
    go_loopw [7, 8] (fun v i wr => ∃ k : Nat, k ≤ n ∧ i = .int .i64 k ∧ ON EI 1 3 w1 v (numsF P k) wr) (fun _ i _ => n - (intOf i).toNat)
    case atStart => exact ⟨0, Nat.zero_le _, rfl, ON.nil _⟩
    case round =>
      obtain ⟨k, hk, rfl, hf⟩ := hrel
      have HFk := Lib.hid hf
      clear hf
      by_cases hlt : k < n
      · have hlen : Hid ((numsF P k).length ≤ 1000) := Lib.hid (by have := numsF_len P k; omega)
        have HRk := Lib.hid (HR1.out.next HFk.out.below)
        have HIk := Lib.hid (HI1.out.next HFk.out.below)
        obtain ⟨x, hx⟩ : ∃ x, worstG g h k = x := ⟨_, rfl⟩
        have HX := Lib.hid hx
        clear hx
        by_cases hxm : x ≤ m
        · have HS : Hid (numsF P (k + 1) = numsF P k ++ [(k : Int)]) := Lib.hid (numsF_yes (by rw [HP.out, HX.out]; simpa using hxm))
          go_wp2_with fail
          refine (refworst_b HRk.out HIk.out HH.out hlt HX.out).mono ?_
          rintro e w3 ⟨rfl, rfl⟩
          go_wp2_with (at_builtin; refine wpList_append_EI rfl (.tmp 25) (.tmp 27) 23 3 rfl HFk.out i0 Try.underlying23 hi0 hz0 hz1 hz2 rfl _ rfl hlen.out ?_; intro v' w4 hON4; refine Hid.out ?_)
          refine Lib.hid ?_
          have HO4 := Lib.hid hON4
          clear hON4
          go_wp2
          go_roundw
          case rel => exact ⟨k + 1, by omega, by go_num, by rw [HS.out]; exact HO4.out⟩
          case measure => simp [intOf]; omega
        · have hxd : decide (x ≤ m) = false := by simpa using hxm
          have HS : Hid (numsF P (k + 1) = numsF P k) := Lib.hid (numsF_no (by rw [HP.out, HX.out]; exact hxd))
          go_wp2_with fail
          refine (refworst_b HRk.out HIk.out HH.out hlt HX.out).mono ?_
          rintro e w3 ⟨rfl, rfl⟩
          go_wp2
          go_roundw
          case rel => exact ⟨k + 1, by omega, by go_num, by rw [HS.out]; exact HFk.out⟩
          case measure => simp [intOf]; omega
      · have hkn : k = n := by omega
        subst hkn
        go_wp2
        go_ret
        exact HFk.out.ipost.trans HB.out

theorem setL_bad {g : Gr} {h : List Int} {a how : Int} (e : ¬ (rightH g h = true ∧ 0 ≤ how ∧ how ≤ 2)) : setL g h a how = (h, 1) := by unfold setL; rw [if_pos e]
theorem setL_none {g : Gr} {h : List Int} {a how : Int} (e : rightH g h = true ∧ 0 ≤ how ∧ how ≤ 2) (e2 : a < 0 ∨ (h.length : Int) ≤ a) : setL g h a how = (h, 6) := by unfold setL; rw [if_neg (fun h' => h' e), if_pos e2]
theorem setL_ok {g : Gr} {h : List Int} {k : Nat} {how : Int} (e : rightH g h = true ∧ 0 ≤ how ∧ how ≤ 2) (e2 : k < h.length) : setL g h (k : Int) how = (h.set k how, 0) := by unfold setL; rw [if_neg (fun h' => h' e), if_neg (by omega), Int.toNat_natCast]

set_option maxRecDepth 100000 in
set_option maxHeartbeats 2000000 in
theorem refSetH_any (A : Option Addr) (n c : Nat) (A2 : Option Addr) (n2 c2 : Nat) (g : Gr) (h : List Int) (a how : Int) (w : World) (hr : RG w w.heap.size A n g) (hn : n ≤ maxLen) (hr2 : RI w w.heap.size A2 n2 h) (hn2 : n2 ≤ maxLen) (hnil2 : A2 = none → c2 = 0) (hnc2 : n2 ≤ c2) :
    Calls Try.prog 8 #[.slice A n c, .slice A2 n2 c2, .int .i64 a, .int .i64 how] w (IEPost (setL g h a how).1 (setL g h a how).2 w) := by
  have HN := Lib.hid hn
  have HN2 := Lib.hid hn2
  unfold maxLen at hn hn2
  have HR := Lib.hid hr
  have HI := Lib.hid hr2
  clear hr hr2
  have HNIL := Lib.hid hnil2
  have HNC := Lib.hid hnc2
  clear hnil2 hnc2
  obtain ⟨i0, hi0, hz0, hz1, hz2⟩ := info_parts int_info
  cases hok : rightH g h with
  | false =>
    have e0 : setL g h a how = (h, 1) := setL_bad (fun h' => Bool.noConfusion (hok.symm.trans h'.1))
    rw [e0]
    have HH := Lib.hid hok
    clear hok e0
    go_enter Try.func8, Try.ntmps8
    go_wp2_with fail
    refine (refRightH_b HR.out HN.out HI.out HN2.out HH.out).mono ?_
    rintro e w1 ⟨rfl, hb⟩
    have HB := Lib.hid hb
    clear hb
    go_wp2
    go_ret2
    exact iepost_mk (HI.out.next HB.out) HNIL.out HNC.out HB.out
  | true =>
    have hn256 : n2 ≤ 256 := by have := (rightG_is (rightH_is hok).1).few; have := (rightH_is hok).2.1; have := HI.out.1; omega
    have HH := Lib.hid hok
    by_cases g0 : how < 0
    · have e0 : setL g h a how = (h, 1) := setL_bad (fun h' => by omega)
      rw [e0]
      clear hok e0
      go_enter Try.func8, Try.ntmps8
      go_wp2_with fail
      refine (refRightH_b HR.out HN.out HI.out HN2.out HH.out).mono ?_
      rintro e w1 ⟨rfl, hb⟩
      have HB := Lib.hid hb
      clear hb
      go_wp2
      go_ret2
      exact iepost_mk (HI.out.next HB.out) HNIL.out HNC.out HB.out
    · by_cases g2 : 2 < how
      · have e0 : setL g h a how = (h, 1) := setL_bad (fun h' => by omega)
        rw [e0]
        have g0d : decide (how < 0) = false := by simpa using g0
        clear hok e0
        go_enter Try.func8, Try.ntmps8
        go_wp2_with fail
        refine (refRightH_b HR.out HN.out HI.out HN2.out HH.out).mono ?_
        rintro e w1 ⟨rfl, hb⟩
        have HB := Lib.hid hb
        clear hb
        go_wp2
        go_ret2
        exact iepost_mk (HI.out.next HB.out) HNIL.out HNC.out HB.out
      · have g0d : decide (how < 0) = false := by simpa using g0
        have g2d : decide (2 < how) = false := by simpa using g2
        by_cases h0 : a < 0
        · have e0 : setL g h a how = (h, 6) := setL_none ⟨hok, by omega, by omega⟩ (.inl h0)
          rw [e0]
          clear hok e0
          go_enter Try.func8, Try.ntmps8
          go_wp2_with fail
          refine (refRightH_b HR.out HN.out HI.out HN2.out HH.out).mono ?_
          rintro e w1 ⟨rfl, hb⟩
          have HB := Lib.hid hb
          clear hb
          go_wp2
          go_ret2
          exact iepost_mk (HI.out.next HB.out) HNIL.out HNC.out HB.out
        · have h0d : decide (a < 0) = false := by simpa using h0
          by_cases h1 : (n2 : Int) ≤ a
          · have e0 : setL g h a how = (h, 6) := setL_none ⟨hok, by omega, by omega⟩ (.inr (by rw [HI.out.1]; exact h1))
            rw [e0]
            clear hok e0
            go_enter Try.func8, Try.ntmps8
            go_wp2_with fail
            refine (refRightH_b HR.out HN.out HI.out HN2.out HH.out).mono ?_
            rintro e w1 ⟨rfl, hb⟩
            have HB := Lib.hid hb
            clear hb
            go_wp2
            go_ret2
            exact iepost_mk (HI.out.next HB.out) HNIL.out HNC.out HB.out
          · obtain ⟨k, rfl⟩ : ∃ k : Nat, a = (k : Int) := ⟨a.toNat, by omega⟩
            have hk : k < n2 := by omega
            have e0 : setL g h (k : Int) how = (h.set k how, 0) := setL_ok ⟨hok, by omega, by omega⟩ (by rw [HI.out.1]; exact hk)
            rw [e0]
            have h1d : decide (n2 ≤ k) = false := by simp; omega
            clear hok e0 h0 h1 h0d
            have h0d : decide ((k : Int) < 0) = false := by simp
            go_enter Try.func8, Try.ntmps8
            go_wp2_with fail
            refine (refRightH_b HR.out HN.out HI.out HN2.out HH.out).mono ?_
            rintro e w1 ⟨rfl, hb⟩
            have HB := Lib.hid hb
            clear hb
            have HI1 := Lib.hid ((HI.out.next HB.out).below (w' := w1.alloc (.cells #[] 3)) ((Below.refl _ _).alloc (Nat.le_refl _) _))
            go_wp2_with (at_builtin; refine wpList_append_RI _ rfl _ _ 23 rfl w1.heap.size 3 i0 (.int .i64 0) 8 Try.underlying23 hi0 hz0 hz1 hz2 rfl (.slice (some ⟨w1.heap.size, 0, none⟩) 0 0) 0 [] rfl (World.ownsRow_made w1 #[] 0 (Nat.le_refl _) (Nat.zero_le _) rfl) w1.heap.size _ n2 c2 h rfl HI1.out HNIL.out (by unfold maxLen; omega) (by omega) (by simp) ?_; intro v' w2 hown hgrow; refine Hid.out ?_)
            refine Lib.hid ?_
            have HO : Hid (w2.ownsRow w1.heap.size 3 1 v' n2 (h.map (Value.int .i64))) := Lib.hid (by simpa using hown)
            have HBG : Hid (Below w1.heap.size w1 w2) := Lib.hid (((Below.refl _ w1).alloc (Nat.le_refl _) _).grown hgrow (by simp) (by intro q hq; simp [Value.ownBlock] at hq; omega))
            clear hown hgrow
            have hform : ∃ gb cap, v' = .slice (some ⟨gb, 0, none⟩) n2 cap := by
              rcases HO.out.2 with ⟨_, h0⟩ | ⟨gb, cap, _, hv, _⟩
              · omega
              · exact ⟨gb, cap, hv⟩
            obtain ⟨gb, cap, rfl⟩ := hform
            have hst := HO.out.stored k (.int .i64 how)
            have HST : Hid ((w2.setCell ⟨gb, k, none⟩ (.int .i64 how)).ownsRow w1.heap.size 3 1 (.slice (some ⟨gb, 0, none⟩) n2 cap) n2 ((h.set k how).map (Value.int .i64))) := Lib.hid (by rw [List.map_set]; exact hst.1)
            have HBS : Hid (Below w1.heap.size w1 (w2.setCell ⟨gb, k, none⟩ (.int .i64 how))) := Lib.hid (HBG.out.setCell (HO.out.lt gb rfl).1 _)
            have hcell : ∃ u, w2.cell? ⟨gb, k, none⟩ = some u := by
              rw [HO.out.cellAt k (by omega)]
              exact ⟨_, List.getElem?_eq_getElem (by rw [List.length_map, HI.out.1]; exact hk)⟩
            obtain ⟨u, hu⟩ := hcell
            have hfz := HO.out.frozenAt k
            clear hst
            go_wp2
            go_ret2
            exact iepost_mk (RI.of_own HST.out) (fun e => by cases e) (own_cap HST.out) (HB.out.trans (HBS.out.mono HB.out.size))

end Go.Proofs.Ytnlgnpdajblfnaa
