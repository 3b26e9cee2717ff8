/- The reference's Whole of a graph's set (bailiwickref05): what it answers of any list of things and numbers. -/
import Derived.Test.YtokjinihdanhbaaGraphLists
namespace Go.Proofs.Ytokjinihdanhbaa
open Go.RowKit

theorem refRightI_b {A : Option Addr} {n c : Nat} {l : List Int} {w : World} {b : Bool} (hr : RI w w.heap.size A n l) (hn : n ≤ maxLen) (h : rightB l = b) :
    Calls Try.prog 34 #[.slice A n c] w fun e w' => e = .returned (.bool b) ∧ Below w.heap.size w w' :=
  (refRight_any A n c l w _ hr hn).mono fun _ _ ⟨h1, k, h2⟩ => ⟨by rw [h1, h], by rw [h2]; exact bel_drew w k⟩
theorem anyOver_yes {g : Gr} {l : List Int} {k i : Nat} (hi : i < l.length) (h : overG g k (l.getD i 0).toNat = true) : anyOver g l k = true := by
  unfold anyOver
  rw [List.any_eq_true]
  refine ⟨l[i], List.getElem_mem hi, ?_⟩
  rw [List.getD, List.getElem?_eq_getElem hi] at h
  exact h

set_option maxRecDepth 100000 in
set_option maxHeartbeats 4000000 in
theorem refWholeG_any (A : Option Addr) (n c : Nat) (A2 : Option Addr) (n2 c2 : Nat) (g : Gr) (l : List Int) (w : World) (hr : RG w w.heap.size A n g) (hn : n ≤ maxLen) (hr2 : RI w w.heap.size A2 n2 l) (hn2 : n2 ≤ maxLen) :
    Calls Try.prog 19 #[.slice A n c, .slice A2 n2 c2] w (IPost (wholeL g l) w) := by
  have HN := Lib.hid hn
  have HN2 := Lib.hid hn2
  unfold maxLen at hn hn2
  have HR := Lib.hid hr
  have HI := Lib.hid hr2
  clear hr hr2
  obtain ⟨i0, hi0, hz0, hz1, hz2⟩ := info_parts int_info
  cases hg : rightG g with
  | false =>
    have e0 : wholeL g l = [] := wholeL_no (fun h => Bool.noConfusion (hg.symm.trans h.1))
    rw [e0]
    have HG := Lib.hid hg
    clear hg e0
    go_enter Try.func19, Try.ntmps19
    go_wp2_with fail
    refine (refRightG_b HR.out HN.out HG.out).mono ?_
    rintro e w1 ⟨rfl, hb⟩
    have HB := Lib.hid hb
    clear hb
    go_wp2
    go_ret
    exact ipost_nil HB.out
  | true =>
    have HGR := Lib.hid (rightG_is hg)
    have HG := Lib.hid hg
    clear hg
    cases hl : rightB l with
    | false =>
      have e0 : wholeL g l = [] := wholeL_no (fun h => Bool.noConfusion (hl.symm.trans h.2.1))
      rw [e0]
      have HL := Lib.hid hl
      clear hl e0
      go_enter Try.func19, Try.ntmps19
      go_wp2_with fail
      refine (refRightG_b HR.out HN.out HG.out).mono ?_
      rintro e w1 ⟨rfl, hb⟩
      have HB1 := Lib.hid hb
      clear hb
      go_wp2_with fail
      refine (refRightI_b (HI.out.next HB1.out) HN2.out HL.out).mono ?_
      rintro e w2 ⟨rfl, hb⟩
      have HB := Lib.hid (HB1.out.trans (hb.mono HB1.out.size))
      clear hb
      go_wp2
      go_ret
      exact ipost_nil HB.out
    | true =>
      have HL := Lib.hid hl
      clear hl
      have hn256 : n ≤ 256 := by have := HGR.out.few; have := HR.out.len; omega
      by_cases hz : n2 = 0
      · have HX : Hid (∀ x ∈ l, 0 ≤ x ∧ x < n) := Lib.hid (fun x hx => by
          have hnil : l = [] := List.eq_nil_of_length_eq_zero (by rw [HI.out.1]; exact hz)
          rw [hnil] at hx; cases hx)
        have hzd : decide (0 < n2) = false := by simp; omega
        clear hz
        go_enter Try.func19, Try.ntmps19
        go_wp2_with fail
        refine (refRightG_b HR.out HN.out HG.out).mono ?_
        rintro e w1 ⟨rfl, hb⟩
        have HB1 := Lib.hid hb
        clear hb
        go_wp2_with fail
        refine (refRightI_b (HI.out.next HB1.out) HN2.out HL.out).mono ?_
        rintro e w2 ⟨rfl, hb⟩
        have HB := Lib.hid (HB1.out.trans (hb.mono HB1.out.size))
        have HR2 := Lib.hid (HR.out.next HB.out)
        have HI2 := Lib.hid (HI.out.next HB.out)
        clear hb
        go_wp2
        go_loopw [5, 6] (fun v i wr => ∃ (k : Nat) (v0 : Value), k ≤ n ∧ i = .int .i64 k ∧ v0 = v ∧ ON EI 1 3 w2 v0 (numsF (anyOver g l) k) wr) (fun _ i _ => n - (intOf i).toNat)
        case atStart => exact ⟨0, _, Nat.zero_le _, rfl, rfl, ON.nil _⟩
        case round =>
          obtain ⟨k, v0, hk, rfl, rfl, hf⟩ := hrel
          have HFk := Lib.hid hf
          clear hf
          by_cases hlt : k < n
          · have hlen : Hid ((numsF (anyOver g l) k).length ≤ 1000) := Lib.hid (by have := numsF_len (anyOver g l) k; omega)
            have HRk := Lib.hid (HR2.out.next HFk.out.below)
            have HIk := Lib.hid (HI2.out.next HFk.out.below)
            go_wp2
            go_loop [5, 7] (fun v i => ∃ j : Nat, j ≤ n2 ∧ i = .int .i64 j ∧ v0 = v ∧ ∀ i, i < j → overG g k (l.getD i 0).toNat = false) (fun _ i => n2 - (intOf i).toNat)
            case atStart => exact ⟨0, Nat.zero_le _, rfl, rfl, fun i hi => absurd hi (by omega)⟩
            case round =>
              obtain ⟨j, hj, rfl, rfl, hpre⟩ := hrel
              have HP := Lib.hid hpre
              clear hpre
              by_cases hltj : j < n2
              · obtain ⟨b2, off2, rfl, _, hc2⟩ := HIk.out.one hltj
                have hx0 := HX.out (l.getD j 0) (by
                  have hjl : j < l.length := by rw [HIk.out.1]; exact hltj
                  rw [List.getD, List.getElem?_eq_getElem hjl]; exact List.getElem_mem hjl)
                obtain ⟨x, hx⟩ : ∃ x : Nat, l.getD j 0 = (x : Int) := ⟨(l.getD j 0).toNat, by omega⟩
                have hxn : x < n := by omega
                rw [hx] at hc2
                have HXj := Lib.hid hx
                clear hx hx0
                cases ho : overG g k x with
                | true =>
                  have HS := Lib.hid (numsF_yes (anyOver_yes (g := g) (k := k) (by rw [HIk.out.1]; exact hltj) (by rw [HXj.out, Int.toNat_natCast]; exact ho)))
                  have HO := Lib.hid ho
                  clear ho
                  go_wp2_with fail
                  refine (refOver_b HRk.out HGR.out hxn HO.out).mono ?_
                  rintro e w3 ⟨rfl, rfl⟩
                  go_wp2_with (at_builtin; refine wpList_append_EI rfl (.tmp 51) (.tmp 53) 23 3 rfl HFk.out i0 Try.underlying23 hi0 hz0 hz1 hz2 rfl _ rfl hlen.out ?_; intro v' w4 hON4; refine Hid.out ?_)
                  refine Lib.hid ?_
                  have HO4 := Lib.hid hON4
                  clear hON4
                  go_wp2
                  go_roundw
                  case rel => exact ⟨k + 1, _, by omega, by go_num, rfl, by rw [HS.out]; exact HO4.out⟩
                  case measure => simp [intOf]; omega
                | false =>
                  have HS : Hid (∀ i, i < j + 1 → overG g k (l.getD i 0).toNat = false) := Lib.hid (by
                    intro i hi
                    rcases Nat.lt_or_ge i j with h' | h'
                    · exact HP.out i h'
                    · obtain rfl : i = j := by omega
                      rw [HXj.out, Int.toNat_natCast]; exact ho)
                  have HO := Lib.hid ho
                  clear ho
                  go_wp2_with fail
                  refine (refOver_b HRk.out HGR.out hxn HO.out).mono ?_
                  rintro e w3 ⟨rfl, rfl⟩
                  go_wp2
                  go_round
                  case rel => exact ⟨j + 1, by omega, by go_num, rfl, HS.out⟩
                  case measure => simp [intOf]; omega
              · have HS := Lib.hid (numsF_no (anyOver_no (g := g) (k := k) (l := l) (fun i hi => HP.out i (by have := HIk.out.1; omega))))
                go_wp2
                go_roundw
                case rel => exact ⟨k + 1, _, by omega, by go_num, rfl, by rw [HS.out]; exact HFk.out⟩
                case measure => simp [intOf]; omega
          · have hkn : k = n := by omega
            subst hkn
            have e0 : Hid (wholeL g l = numsF (anyOver g l) k) := Lib.hid (by rw [wholeL_yes HG.out HL.out (fun x hx => by have := HX.out x hx; have := HR.out.len; omega), HR.out.len])
            go_wp2
            go_ret
            rw [e0.out]
            exact HFk.out.ipost.trans HB.out
      · have hp : 0 < n2 := by omega
        have hpd : decide (0 < n2) = true := by simp; omega
        clear hz
        obtain ⟨y, hy⟩ : ∃ y, l.getD (n2 - 1) 0 = y := ⟨_, rfl⟩
        have HY := Lib.hid hy
        clear hy
        have hix : ((n2 : Int) - 1).toNat = n2 - 1 := by omega
        by_cases hyn : (n : Int) ≤ y
        · have e0 : wholeL g l = [] := wholeL_no (fun h => by
            have := h.2.2 y (by
              have hj : n2 - 1 < l.length := by rw [HI.out.1]; omega
              rw [← HY.out, List.getD, List.getElem?_eq_getElem hj]; exact List.getElem_mem hj)
            have := HR.out.len
            omega)
          rw [e0]
          clear e0
          go_enter Try.func19, Try.ntmps19
          go_wp2_with fail
          refine (refRightG_b HR.out HN.out HG.out).mono ?_
          rintro e w1 ⟨rfl, hb⟩
          have HB1 := Lib.hid hb
          clear hb
          go_wp2_with fail
          refine (refRightI_b (HI.out.next HB1.out) HN2.out HL.out).mono ?_
          rintro e w2 ⟨rfl, hb⟩
          have HB := Lib.hid (HB1.out.trans (hb.mono HB1.out.size))
          have HI2 := Lib.hid (HI.out.next HB.out)
          obtain ⟨b2, off2, rfl, _, hc2⟩ := HI2.out.one (k := n2 - 1) (by omega)
          rw [HY.out] at hc2
          clear hb
          go_wp2
          go_ret
          exact ipost_nil HB.out
        · have HX : Hid (∀ x ∈ l, 0 ≤ x ∧ x < n) := Lib.hid (fun x hx => ⟨(right_mem HL.out x hx).1, all_lt_last HL.out (by rw [HI.out.1]; exact hp) n (by rw [HI.out.1, HY.out]; omega) x hx⟩)
          have hynd : decide ((n : Int) ≤ y) = false := by simpa using hyn
          go_enter Try.func19, Try.ntmps19
          go_wp2_with fail
          refine (refRightG_b HR.out HN.out HG.out).mono ?_
          rintro e w1 ⟨rfl, hb⟩
          have HB1 := Lib.hid hb
          clear hb
          go_wp2_with fail
          refine (refRightI_b (HI.out.next HB1.out) HN2.out HL.out).mono ?_
          rintro e w2 ⟨rfl, hb⟩
          have HB := Lib.hid (HB1.out.trans (hb.mono HB1.out.size))
          have HR2 := Lib.hid (HR.out.next HB.out)
          have HI2 := Lib.hid (HI.out.next HB.out)
          obtain ⟨b2, off2, rfl, _, hc2⟩ := HI2.out.one (k := n2 - 1) (by omega)
          rw [HY.out] at hc2
          clear hb
          go_wp2
          go_loopw [5, 6] (fun v i wr => ∃ (k : Nat) (v0 : Value), k ≤ n ∧ i = .int .i64 k ∧ v0 = v ∧ ON EI 1 3 w2 v0 (numsF (anyOver g l) k) wr) (fun _ i _ => n - (intOf i).toNat)
          case atStart => exact ⟨0, _, Nat.zero_le _, rfl, rfl, ON.nil _⟩
          case round =>
            obtain ⟨k, v0, hk, rfl, rfl, hf⟩ := hrel
            have HFk := Lib.hid hf
            clear hf
            by_cases hlt : k < n
            · have hlen : Hid ((numsF (anyOver g l) k).length ≤ 1000) := Lib.hid (by have := numsF_len (anyOver g l) k; omega)
              have HRk := Lib.hid (HR2.out.next HFk.out.below)
              have HIk := Lib.hid (HI2.out.next HFk.out.below)
              go_wp2
              go_loop [5, 7] (fun v i => ∃ j : Nat, j ≤ n2 ∧ i = .int .i64 j ∧ v0 = v ∧ ∀ i, i < j → overG g k (l.getD i 0).toNat = false) (fun _ i => n2 - (intOf i).toNat)
              case atStart => exact ⟨0, Nat.zero_le _, rfl, rfl, fun i hi => absurd hi (by omega)⟩
              case round =>
                obtain ⟨j, hj, rfl, rfl, hpre⟩ := hrel
                have HP := Lib.hid hpre
                clear hpre
                by_cases hltj : j < n2
                · obtain ⟨b2', off2', e', _, hc2'⟩ := HIk.out.one hltj; injection e' with e'; injection e' with e1' e2'; subst e1' e2'
                  have hx0 := HX.out (l.getD j 0) (by
                    have hjl : j < l.length := by rw [HIk.out.1]; exact hltj
                    rw [List.getD, List.getElem?_eq_getElem hjl]; exact List.getElem_mem hjl)
                  obtain ⟨x, hx⟩ : ∃ x : Nat, l.getD j 0 = (x : Int) := ⟨(l.getD j 0).toNat, by omega⟩
                  have hxn : x < n := by omega
                  rw [hx] at hc2'
                  have HXj := Lib.hid hx
                  clear hx hx0
                  cases ho : overG g k x with
                  | true =>
                    have HS := Lib.hid (numsF_yes (anyOver_yes (g := g) (k := k) (by rw [HIk.out.1]; exact hltj) (by rw [HXj.out, Int.toNat_natCast]; exact ho)))
                    have HO := Lib.hid ho
                    clear ho
                    go_wp2_with fail
                    refine (refOver_b HRk.out HGR.out hxn HO.out).mono ?_
                    rintro e w3 ⟨rfl, rfl⟩
                    go_wp2_with (at_builtin; refine wpList_append_EI rfl (.tmp 51) (.tmp 53) 23 3 rfl HFk.out i0 Try.underlying23 hi0 hz0 hz1 hz2 rfl _ rfl hlen.out ?_; intro v' w4 hON4; refine Hid.out ?_)
                    refine Lib.hid ?_
                    have HO4 := Lib.hid hON4
                    clear hON4
                    go_wp2
                    go_roundw
                    case rel => exact ⟨k + 1, _, by omega, by go_num, rfl, by rw [HS.out]; exact HO4.out⟩
                    case measure => simp [intOf]; omega
                  | false =>
                    have HS : Hid (∀ i, i < j + 1 → overG g k (l.getD i 0).toNat = false) := Lib.hid (by
                      intro i hi
                      rcases Nat.lt_or_ge i j with h' | h'
                      · exact HP.out i h'
                      · obtain rfl : i = j := by omega
                        rw [HXj.out, Int.toNat_natCast]; exact ho)
                    have HO := Lib.hid ho
                    clear ho
                    go_wp2_with fail
                    refine (refOver_b HRk.out HGR.out hxn HO.out).mono ?_
                    rintro e w3 ⟨rfl, rfl⟩
                    go_wp2
                    go_round
                    case rel => exact ⟨j + 1, by omega, by go_num, rfl, HS.out⟩
                    case measure => simp [intOf]; omega
                · have HS := Lib.hid (numsF_no (anyOver_no (g := g) (k := k) (l := l) (fun i hi => HP.out i (by have := HIk.out.1; omega))))
                  go_wp2
                  go_roundw
                  case rel => exact ⟨k + 1, _, by omega, by go_num, rfl, by rw [HS.out]; exact HFk.out⟩
                  case measure => simp [intOf]; omega
            · have hkn : k = n := by omega
              subst hkn
              have e0 : Hid (wholeL g l = numsF (anyOver g l) k) := Lib.hid (by rw [wholeL_yes HG.out HL.out (fun x hx => by have := HX.out x hx; have := HR.out.len; omega), HR.out.len])
              go_wp2
              go_ret
              rw [e0.out]
              exact HFk.out.ipost.trans HB.out

end Go.Proofs.Ytokjinihdanhbaa
