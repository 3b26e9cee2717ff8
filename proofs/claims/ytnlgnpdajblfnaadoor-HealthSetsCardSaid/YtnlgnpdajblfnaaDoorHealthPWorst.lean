/- The program's New, worst, Worst, upTo, Usable, Works, Set of layer 6 (health): what they answer of any list of things and numbers. -/
import Derived.Test.YtnlgnpdajblfnaaDoorHealthPBase
namespace Go.Proofs.YtnlgnpdajblfnaaDoor
open Go.RowKit

/-- how bad the first k things are; of the others how they are themselves -/
def midL (g : Gr) (h : List Int) (k : Nat) : List Int := (List.range g.length).map fun j => if j < k then worstG g h j else hAt h j
theorem midL_len (g : Gr) (h : List Int) (k : Nat) : (midL g h k).length = g.length := by unfold midL; simp
theorem midL_at {g : Gr} {h : List Int} {k j : Nat} (hj : j < g.length) : (midL g h k)[j]? = some (if j < k then worstG g h j else hAt h j) := by
  unfold midL
  rw [List.getElem?_map, List.getElem?_range hj]
  rfl
theorem midL_start {g : Gr} {h : List Int} (hr : rightH g h = true) : midL g h 1 = h := by
  have hl := (rightH_is hr).2.1
  apply List.ext_getElem?
  intro j
  by_cases hj : j < g.length
  · rw [midL_at hj]
    by_cases h0 : j < 1
    · obtain rfl : j = 0 := by omega
      rw [if_pos h0, worst_top]
      unfold hAt
      rw [List.getD, List.getElem?_eq_getElem (by omega)]; rfl
    · rw [if_neg h0]
      unfold hAt
      rw [List.getD, List.getElem?_eq_getElem (by omega)]; rfl
  · rw [List.getElem?_eq_none (by rw [midL_len]; omega), List.getElem?_eq_none (by omega)]
theorem midL_step {g : Gr} {h : List Int} {k : Nat} (hk : k < g.length) : (midL g h k).set k (worstG g h k) = midL g h (k + 1) := by
  apply List.ext_getElem?
  intro j
  by_cases hj : j < g.length
  · by_cases hjk : j = k
    · subst hjk
      rw [List.getElem?_set_self (by rw [midL_len]; exact hj), midL_at hj, if_pos (by omega)]
    · rw [List.getElem?_set_ne (fun e => hjk e.symm), midL_at hj, midL_at hj]
      by_cases h1 : j < k
      · rw [if_pos h1, if_pos (by omega)]
      · rw [if_neg h1, if_neg (by omega)]
  · rw [List.getElem?_eq_none (by rw [List.length_set, midL_len]; omega), List.getElem?_eq_none (by rw [midL_len]; omega)]

/-- an owned row of numbers of which none is nil: where it lies -/
theorem own_pos {w w1 : World} {v : Value} {xs : List Int} (h : ON EI 1 3 w v xs w1) (h0 : 0 < xs.length) :
    ∃ b c, v = .slice (some ⟨b, 0, none⟩) xs.length c ∧ xs.length ≤ c ∧ w1.ownsRow w.heap.size 3 1 (.slice (some ⟨b, 0, none⟩) xs.length c) xs.length (xs.map (Value.int .i64)) ∧ Below w.heap.size w w1 := by
  obtain ⟨h1, h2⟩ := on_own h
  rcases h1.2 with ⟨_, h3⟩ | ⟨b, c, cur, rfl, h3, h4, h5, _⟩
  · omega
  · exact ⟨b, c, rfl, h5, h1, h2⟩
/-- numbers in a row of one's own: each is there, and may be written -/
structure Row1 (w : World) (b n c : Nat) (xs : List Int) (w' : World) : Prop where
  own : w'.ownsRow w.heap.size 3 1 (.slice (some ⟨b, 0, none⟩) n c) n (xs.map (Value.int .i64))
  bel : Below w.heap.size w w'
theorem Row1.at {w w' : World} {b n c : Nat} {xs : List Int} (h : Row1 w b n c xs w') {k : Nat} {x : Int} (hx : xs[k]? = some x) : w'.cell? ⟨b, k, none⟩ = some (.int .i64 x) := by
  have hl := h.own.1
  have hk := (List.getElem?_eq_some_iff.1 hx).1
  rw [h.own.cellAt k (by simp at hl; omega), List.getElem?_map, hx]
  rfl
theorem Row1.set {w w' : World} {b n c : Nat} {xs : List Int} (h : Row1 w b n c xs w') (k : Nat) (x : Int) : Row1 w b n c (xs.set k x) (w'.setCell ⟨b, k, none⟩ (.int .i64 x)) := by
  have hs := h.own.stored k (.int .i64 x)
  refine ⟨by rw [List.map_set]; exact hs.1, h.bel.grown hs.2 h.bel.size (fun j hj => ?_)⟩
  injection hj with hj
  subst hj
  exact (h.own.lt b rfl).1
theorem Row1.drew {w w' : World} {b n c : Nat} {xs : List Int} (h : Row1 w b n c xs w') : Row1 w b n c xs w'.drew := ⟨h.own, ⟨h.bel.os, h.bel.tape, h.bel.output, h.bel.size, h.bel.block⟩⟩
theorem Row1.len {w w' : World} {b n c : Nat} {xs : List Int} (h : Row1 w b n c xs w') : xs.length = n := by have := h.own.1; simpa using this
theorem Row1.post {w w' : World} {b n c : Nat} {xs : List Int} (h : Row1 w b n c xs w') : IPost xs w (.returned (.slice (some ⟨b, 0, none⟩) n c)) w' := by
  have hl := h.len
  subst hl
  exact ipost_own h.own h.bel

set_option maxRecDepth 100000 in
set_option maxHeartbeats 4000000 in
theorem worst_any (A : Option Addr) (n c : Nat) (A2 : Option Addr) (n2 c2 : Nat) (g : Gr) (h : List Int) (w : World) (hr : RG w w.heap.size A n g) (hr2 : RI w w.heap.size A2 n2 h) (hnil : A2 = none → c2 = 0) (hok : rightH g h = true) :
    Calls Tryd.prog 33 #[.slice A n c, .slice A2 n2 c2] w (IPost (midL g h g.length) w) := by
  have hnn : n2 = n := by rw [← hr2.1, ← hr.len]; exact (rightH_is hok).2.1
  subst hnn
  have HL := Lib.hid hr.len
  have hn256 : n2 ≤ 256 := by have := (rightG_is (rightH_is hok).1).few; have := hr.len; omega
  have hn0 : 0 < n2 := by have := (rightG_is (rightH_is hok).1).pos; have := hr.len; omega
  have HR := Lib.hid hr
  have HI := Lib.hid hr2
  have HG := Lib.hid (rightG_is (rightH_is hok).1)
  have HS := Lib.hid (midL_start hok)
  have HNIL := Lib.hid hnil
  have HBND : Hid (∀ k, k < n2 → 0 ≤ hAt h k ∧ hAt h k ≤ 2) := Lib.hid (fun k hk => hAt_bounds hok (by rw [HL.out]; exact hk))
  clear hr hr2 hok hnil
  go_enter Tryd.func33, Tryd.ntmps33
  go_wp2_with fail
  refine (clone_any _ _ _ _ _ HI.out HNIL.out (by omega)).mono ?_
  rintro e w1 ⟨v, rfl, hown⟩
  obtain ⟨b, cc, rfl, hcc, ho, hb⟩ := own_pos hown (by rw [HI.out.1]; exact hn0)
  rw [HI.out.1] at *
  have HRow : Hid (Row1 w b n2 cc (midL g h 1) w1) := Lib.hid (by rw [HS.out]; exact ⟨ho, hb⟩)
  clear ho hb hown
  go_wp2
  go_loopw [6] (fun i wr => ∃ k : Nat, 1 ≤ k ∧ k ≤ n2 ∧ i = .int .i64 k ∧ Row1 w b n2 cc (midL g h k) wr) (fun i _ => n2 - (intOf i).toNat)
  case atStart => exact ⟨1, Nat.le_refl _, hn0, rfl, HRow.out⟩
  case round =>
    obtain ⟨k, hk1, hk, rfl, hrow⟩ := hrel
    have HRw := Lib.hid hrow
    clear hrow
    by_cases hlt : k < n2
    · have hkl : k < g.length := by rw [HL.out]; exact hlt
      have hup := HG.out.up k hk1 hkl
      obtain ⟨p, hp⟩ : ∃ p, par g k = p := ⟨_, rfl⟩
      have hu : gu g k = (p : Int) := by unfold par at hp; omega
      have HW : Hid (worstG g h k = max (hAt h k) (worstG g h p)) := Lib.hid (by rw [← hp]; exact worst_up HG.out hkl hk1)
      rw [hp] at hup
      have hpk := hup.2
      have hpn : p < n2 := by omega
      have hck := HRw.out.at (midL_at (k := k) hkl)
      have hcp := HRw.out.at (midL_at (k := k) (show p < g.length by omega))
      rw [if_neg (by omega)] at hck
      rw [if_pos hpk] at hcp
      have HRk := Lib.hid (HR.out.next HRw.out.bel)
      obtain ⟨b2, off, rfl, _, _, hc1, _, _⟩ := HRk.out.one hlt
      rw [hu] at hc1
      have hfz := HRw.out.own.frozenAt k
      have HN2 : Hid (Row1 w b n2 cc (midL g h (k + 1)) (wr.setCell ⟨b, k, none⟩ (.int .i64 (worstG g h k)))) := Lib.hid (by rw [← midL_step hkl]; exact HRw.out.set _ _)
      rw [HW.out] at HN2
      obtain ⟨x, hx⟩ : ∃ x, hAt h k = x := ⟨_, rfl⟩
      obtain ⟨y, hy⟩ : ∃ y, worstG g h p = y := ⟨_, rfl⟩
      rw [hx] at hck HN2
      rw [hy] at hcp HN2
      rw [show max x y = if x < y then y else x by split <;> omega] at HN2
      have HN3 := Lib.hid HN2.out.drew
      clear HN2
      have hpz : (p : Int) < (n2 : Int) := by omega
      have hkz : (k : Int) < (n2 : Int) := by omega
      clear hx hy hu hp hup HW hkl
      go_wp2
      go_region
      all_goals go_wp2
      go_roundw
      case rel => exact ⟨k + 1, by omega, by omega, by go_num, HN3.out⟩
      case measure => simp [intOf]; omega
    · have hkn : k = g.length := by rw [HL.out]; omega
      rw [hkn] at HRw
      go_wp2
      go_ret
      exact HRw.out.post

theorem midL_all {g : Gr} {h : List Int} {k : Nat} (hk : k < g.length) : (midL g h g.length).getD k 0 = worstG g h k := by
  rw [List.getD, midL_at hk, if_pos hk]; rfl
theorem worstL_yes {g : Gr} {h : List Int} {k : Nat} (hr : rightH g h = true) (hk : k < g.length) : worstL g h (k : Int) = worstG g h k := by
  unfold worstL
  rw [if_pos ⟨hr, by omega, by have := (rightH_is hr).2.1; omega⟩, Int.toNat_natCast]

set_option maxRecDepth 100000 in
set_option maxHeartbeats 4000000 in
theorem Worst_any (A : Option Addr) (n c : Nat) (A2 : Option Addr) (n2 c2 : Nat) (g : Gr) (h : List Int) (a : Int) (w : World) (hq : GAsk w A n c g) (hq2 : LAsk w A2 n2 c2 h) :
    Calls Tryd.prog 18 #[.slice A n c, .slice A2 n2 c2, .int .i64 a] w fun e w' => e = .returned (.int .i64 (worstL g h a)) ∧ Below w.heap.size w w' := by
  have HR := Lib.hid hq.reads
  have HI := Lib.hid hq2.reads
  have HNIL := Lib.hid hq2.nil
  have HL := Lib.hid hq.reads.len
  have HN := Lib.hid (ml300 hq.few)
  have HN2 := Lib.hid (ml300 hq2.few)
  clear hq hq2
  cases hok : rightH g h with
  | false =>
    have e1 : Hid (worstL g h a = 2) := Lib.hid (by unfold worstL; rw [if_neg (fun h' => by rw [hok] at h'; cases h'.1)])
    have HO := Lib.hid hok
    clear hok
    go_enter Tryd.func18, Tryd.ntmps18
    go_wp2_with fail
    refine (rightH_b HR.out HN.out HI.out HN2.out HO.out).mono ?_
    rintro e w1 ⟨rfl, hb⟩
    have HB := Lib.hid hb
    clear hb
    go_wp2
    go_ret
    exact ⟨ret_int e1.out.symm, HB.out⟩
  | true =>
    have HO := Lib.hid hok
    cases ht : isThing g a with
    | false =>
      have e1 : Hid (worstL g h a = 2) := Lib.hid (by
        unfold worstL
        rw [if_neg (fun h' => of_decide_eq_false ht ⟨h'.2.1, by have := (rightH_is hok).2.1; omega⟩)])
      have HT := Lib.hid ht
      clear hok ht
      go_enter Tryd.func18, Tryd.ntmps18
      go_wp2_with fail
      refine (rightH_b HR.out HN.out HI.out HN2.out HO.out).mono ?_
      rintro e w1 ⟨rfl, hb⟩
      have HB := Lib.hid hb
      clear hb
      go_wp2_with fail
      refine (thing_b HL.out HT.out).mono ?_
      rintro e w2 ⟨rfl, rfl⟩
      go_wp2
      go_ret
      exact ⟨ret_int e1.out.symm, HB.out⟩
    | true =>
      have hta := of_decide_eq_true ht
      obtain ⟨k, rfl⟩ : ∃ k : Nat, a = (k : Int) := ⟨a.toNat, by omega⟩
      have hkl : k < g.length := by omega
      have hkn : k < n := by rw [← HL.out]; exact hkl
      have hml : (midL g h g.length).length = n := by rw [midL_len, HL.out]
      have e1 := Lib.hid (worstL_yes hok hkl)
      have e2 := Lib.hid (midL_all (h := h) hkl)
      have HT := Lib.hid ht
      clear hok ht hta
      go_enter Tryd.func18, Tryd.ntmps18
      go_wp2_with fail
      refine (rightH_b HR.out HN.out HI.out HN2.out HO.out).mono ?_
      rintro e w1 ⟨rfl, hb⟩
      have HB := Lib.hid hb
      have HR1 := Lib.hid (HR.out.next hb)
      have HI1 := Lib.hid (HI.out.next hb)
      clear hb
      go_wp2_with fail
      refine (thing_b HL.out HT.out).mono ?_
      rintro e w2 ⟨rfl, rfl⟩
      go_wp2_with fail
      refine (worst_any _ _ _ _ _ _ _ _ _ HR1.out HI1.out HNIL.out HO.out).mono ?_
      rintro e w3 ⟨⟨A3, c3, rfl, hri, _, _⟩, hb3⟩
      rw [hml] at hri ⊢
      have HB3 := Lib.hid (HB.out.trans (hb3.mono HB.out.size))
      obtain ⟨b, off, rfl, _, hc⟩ := hri.one hkn
      rw [e2.out] at hc
      clear hri hb3
      go_wp2
      go_ret
      exact ⟨ret_int e1.out.symm, HB3.out⟩

set_option maxRecDepth 100000 in
set_option maxHeartbeats 4000000 in
theorem upTo_any (A : Option Addr) (n c : Nat) (A2 : Option Addr) (n2 c2 : Nat) (g : Gr) (h : List Int) (m : Int) (w : World) (hr : RG w w.heap.size A n g) (hn : n ≤ maxLen) (hr2 : RI w w.heap.size A2 n2 h) (hn2 : n2 ≤ maxLen) (hnil : A2 = none → c2 = 0) :
    Calls Tryd.prog 21 #[.slice A n c, .slice A2 n2 c2, .int .i64 m] w (IPost (belowL g h m) w) := by
  obtain ⟨i0, hi0, hz0, hz1, hz2⟩ := info_parts int_info
  have HR := Lib.hid hr
  have HI := Lib.hid hr2
  have HNIL := Lib.hid hnil
  have HL := Lib.hid hr.len
  have HN := Lib.hid hn
  have HN2 := Lib.hid hn2
  clear hr hr2 hnil hn hn2
  cases hok : rightH g h with
  | false =>
    have e1 : Hid (belowL g h m = []) := Lib.hid (by unfold belowL; rw [if_neg (by rw [hok]; intro h'; cases h')])
    have HO := Lib.hid hok
    rw [e1.out]
    clear hok
    go_enter Tryd.func21, Tryd.ntmps21
    go_wp2_with fail
    refine (rightH_b HR.out HN.out HI.out HN2.out HO.out).mono ?_
    rintro e w1 ⟨rfl, hb⟩
    have HB := Lib.hid hb
    clear hb
    go_wp2
    go_ret
    exact ipost_nil HB.out
  | true =>
    have HO := Lib.hid hok
    have hml : (midL g h g.length).length = n := by rw [midL_len, HL.out]
    have hn256 : n ≤ 256 := by have := (rightG_is (rightH_is hok).1).few; have := HL.out; omega
    have HRES : Hid (belowL g h m = numsF (fun k => decide (worstG g h k ≤ m)) n) := Lib.hid (by rw [belowL_is hok, HL.out])
    clear hok
    go_enter Tryd.func21, Tryd.ntmps21
    go_wp2_with fail
    refine (rightH_b HR.out HN.out HI.out HN2.out HO.out).mono ?_
    rintro e w1 ⟨rfl, hb⟩
    have HB := Lib.hid hb
    have HR1 := Lib.hid (HR.out.next hb)
    have HI1 := Lib.hid (HI.out.next hb)
    clear hb
    go_wp2_with fail
    refine (worst_any _ _ _ _ _ _ _ _ _ HR1.out HI1.out HNIL.out HO.out).mono ?_
    rintro e w3 ⟨⟨A3, c3, rfl, hri, _, _⟩, hb3⟩
    rw [hml] at hri ⊢
    have HB3 := Lib.hid (HB.out.trans (hb3.mono HB.out.size))
    have HI3 := Lib.hid hri
    clear hri hb3
    go_wp2
    go_loopw [7, 18] (fun v i wr => ∃ k : Nat, k ≤ n ∧ i = .int .i64 k ∧ ON EI 1 3 w3 v (numsF (fun k => decide (worstG g h k ≤ m)) k) wr) (fun _ i _ => n - (intOf i).toNat)
    case atStart => exact ⟨0, Nat.zero_le _, rfl, ON.nil _⟩
    case round =>
      obtain ⟨k, hk, rfl, hf⟩ := hrel
      have HF := Lib.hid hf
      clear hf
      by_cases hlt : k < n
      · have hkl : k < g.length := by rw [HL.out]; exact hlt
        have hlen : Hid ((numsF (fun k => decide (worstG g h k ≤ m)) k).length ≤ 1000) := Lib.hid (by have := numsF_len (fun k => decide (worstG g h k ≤ m)) k; omega)
        have HIk := Lib.hid (HI3.out.next HF.out.below)
        obtain ⟨b, off, rfl, _, hc⟩ := HIk.out.one hlt
        rw [midL_all hkl] at hc
        obtain ⟨x, hx⟩ : ∃ x, worstG g h k = x := ⟨_, rfl⟩
        rw [hx] at hc
        cases hp : decide (x ≤ m) with
        | true =>
          have HS : Hid (numsF (fun k => decide (worstG g h k ≤ m)) (k + 1) = numsF (fun k => decide (worstG g h k ≤ m)) k ++ [(k : Int)]) := Lib.hid (numsF_yes (by rw [hx]; exact hp))
          clear hx hkl
          go_wp2_with (at_builtin; refine wpList_append_EI rfl _ _ 23 3 rfl HF.out i0 Tryd.underlying23 hi0 hz0 hz1 hz2 rfl _ rfl hlen.out ?_; intro v' w4 hON4; refine Hid.out ?_)
          refine Lib.hid ?_
          have HO4 := Lib.hid hON4
          clear hON4 hc
          go_wp2
          go_roundw
          case rel => exact ⟨k + 1, by omega, by go_num, by rw [HS.out]; exact HO4.out⟩
          case measure => simp [intOf]; omega
        | false =>
          have HS : Hid (numsF (fun k => decide (worstG g h k ≤ m)) (k + 1) = numsF (fun k => decide (worstG g h k ≤ m)) k) := Lib.hid (numsF_no (by rw [hx]; exact hp))
          clear hx hkl
          go_wp2
          go_roundw
          case rel => exact ⟨k + 1, by omega, by go_num, by rw [HS.out]; exact HF.out⟩
          case measure => simp [intOf]; omega
      · have hkn : k = n := by omega
        subst hkn
        go_wp2
        go_ret
        rw [HRES.out]
        exact HF.out.ipost.trans HB3.out

set_option maxRecDepth 100000 in
set_option maxHeartbeats 1000000 in
theorem usable_any (A : Option Addr) (n c : Nat) (A2 : Option Addr) (n2 c2 : Nat) (g : Gr) (h : List Int) (w : World) (hq : GAsk w A n c g) (hq2 : LAsk w A2 n2 c2 h) :
    Calls Tryd.prog 7 #[.slice A n c, .slice A2 n2 c2] w (IPost (belowL g h 0) w) := by
  have HC : Hid (Calls Tryd.prog 21 #[.slice A n c, .slice A2 n2 c2, .int .i64 0] w (IPost (belowL g h 0) w)) := Lib.hid (upTo_any A n c A2 n2 c2 g h 0 w hq.reads (ml300 hq.few) hq2.reads (ml300 hq2.few) hq2.nil)
  clear hq hq2
  go_enter Tryd.func7, Tryd.ntmps7
  go_wp2_with fail
  refine HC.out.mono ?_
  rintro e w1 ⟨⟨A3, c3, rfl, hri, hnil, hcap⟩, hb⟩
  have HX := Lib.hid (ipost_mk hri hnil hcap hb)
  clear hri hnil hcap hb
  go_wp2
  go_ret
  exact HX.out

set_option maxRecDepth 100000 in
set_option maxHeartbeats 1000000 in
theorem works_any (A : Option Addr) (n c : Nat) (A2 : Option Addr) (n2 c2 : Nat) (g : Gr) (h : List Int) (w : World) (hq : GAsk w A n c g) (hq2 : LAsk w A2 n2 c2 h) :
    Calls Tryd.prog 8 #[.slice A n c, .slice A2 n2 c2] w (IPost (belowL g h 1) w) := by
  have HC : Hid (Calls Tryd.prog 21 #[.slice A n c, .slice A2 n2 c2, .int .i64 1] w (IPost (belowL g h 1) w)) := Lib.hid (upTo_any A n c A2 n2 c2 g h 1 w hq.reads (ml300 hq.few) hq2.reads (ml300 hq2.few) hq2.nil)
  clear hq hq2
  go_enter Tryd.func8, Tryd.ntmps8
  go_wp2_with fail
  refine HC.out.mono ?_
  rintro e w1 ⟨⟨A3, c3, rfl, hri, hnil, hcap⟩, hb⟩
  have HX := Lib.hid (ipost_mk hri hnil hcap hb)
  clear hri hnil hcap hb
  go_wp2
  go_ret
  exact HX.out

end Go.Proofs.YtnlgnpdajblfnaaDoor
