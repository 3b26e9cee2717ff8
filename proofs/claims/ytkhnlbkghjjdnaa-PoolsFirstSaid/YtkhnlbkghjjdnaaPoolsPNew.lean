/- The program's New and At of layer 4 (pools): what they answer. -/
import Derived.Test.YtkhnlbkghjjdnaaPoolsPBase
namespace Go.Proofs.Ytkhnlbkghjjdnaa
open Go.RowKit

theorem stepNew_own (k : Int) (w : World) : Calls Try.prog 37 #[.int .i64 k] w (OPost (newR k).1 (newR k).2 w) := by
  cases h : amtB k with
  | false =>
    have e : newR k = ([], 1) := by unfold newR; rw [if_neg]; unfold amtB at h; simpa using h
    rw [e]
    have HA := Lib.hid h
    clear h e
    go_enter Try.func37, Try.ntmps37
    go_wp2_with fail
    refine (amount_b HA.out).mono ?_
    rintro e w1 ⟨rfl, rfl⟩
    go_wp2
    go_ret2
    exact ⟨_, rfl, SOwn.nil _⟩
  | true =>
    have e : newR k = ([(0, k)], 0) := by unfold newR; rw [if_pos]; unfold amtB at h; simpa using h
    rw [e]
    have HA := Lib.hid h
    clear h e
    go_enter Try.func37, Try.ntmps37
    go_wp2_with fail
    refine (amount_b HA.out).mono ?_
    rintro e w1 ⟨rfl, rfl⟩
    go_wp2
    go_ret2
    exact ⟨_, rfl, World.ownsRow_lit w #[.int .i64 0, .int .i64 k] 1 (Nat.le_refl _) (by unfold maxLen; omega) rfl, (Below.refl _ _).alloc (Nat.le_refl _) _⟩

/-- pools and an error's number -/
theorem ppost_mk {A : Option Addr} {n c : Nat} {ls : List (List (Int × Int))} {er : Int} {w w' : World} (hr : RSS w' w'.heap.size A n ls) (hnil : A = none → c = 0) (hnc : n ≤ c) (hb : Below w.heap.size w w') : PPost ls er w (.returned (.tuple #[.slice A n c, .int .i64 er])) w' := by
  have := hr.len
  subst this
  exact ⟨⟨A, c, rfl, hr, hnil, hnc⟩, hb⟩
theorem ipost_mk {A : Option Addr} {n c : Nat} {xs : List Int} {w w' : World} (hr : RI w' w'.heap.size A n xs) (hnil : A = none → c = 0) (hnc : n ≤ c) (hb : Below w.heap.size w w') : IPost xs w (.returned (.slice A n c)) w' := by
  have := hr.1
  subst this
  exact ⟨⟨A, c, rfl, hr, hnil, hnc⟩, hb⟩
theorem newPP_no {xs : List Int} {j : Nat} (hj : j < xs.length) (h : ¬ (0 ≤ xs.getD j 0 ∧ xs.getD j 0 ≤ 1048576)) : newPP xs = ([], 1) := by
  unfold newPP
  rw [if_neg (fun h' => h (h'.2.2 j hj))]

set_option maxRecDepth 100000 in
set_option maxHeartbeats 2000000 in
theorem poolsNew_any (A : Option Addr) (n c : Nat) (xs : List Int) (w : World) (hr : RI w w.heap.size A n xs) :
    Calls Try.prog 20 #[.slice A n c] w (PPost (newPP xs).1 (newPP xs).2 w) := by
  have HR := Lib.hid hr
  clear hr
  obtain ⟨i0, hi0, hz0, hz1, hz2⟩ := info_parts slsl_info
  cases hk : kindsB n with
  | false =>
    have e0 : newPP xs = ([], 1) := by
      unfold kindsB at hk
      rw [decide_eq_false_iff_not] at hk
      unfold newPP
      rw [if_neg (fun h => hk ⟨by have := h.1; have := HR.out.1; omega, by have := h.2.1; have := HR.out.1; omega⟩)]
    rw [e0]
    have HK := Lib.hid hk
    clear hk e0
    go_enter Try.func20, Try.ntmps20
    go_wp2_with fail
    refine (kinds_b HK.out).mono ?_
    rintro e w1 ⟨rfl, rfl⟩
    go_wp2
    go_ret2
    exact ppost_mk RSS.nil (fun _ => rfl) (Nat.le_refl _) (Below.refl _ _)
  | true =>
    have HK := Lib.hid hk
    have hk4 : 1 ≤ n ∧ n ≤ 4 := by unfold kindsB at hk; rwa [decide_eq_true_eq] at hk
    have hk1 := hk4.1
    have hk2 := hk4.2
    clear hk hk4
    obtain ⟨r, hr0⟩ : ∃ r, newPP xs = r := ⟨_, rfl⟩
    have HRES := Lib.hid hr0
    rw [hr0]
    clear hr0
    go_enter Try.func20, Try.ntmps20
    go_wp2_with fail
    refine (kinds_b HK.out).mono ?_
    rintro e w1 ⟨rfl, rfl⟩
    go_wp2_with (at_make; refine wpList_make_full _ rfl _ _ 22 rfl w.heap.size 26 i0 (.slice none 0 0) 1 Try.underlying22 hi0 hz0 hz1 .i64 .i64 _ _ n rfl rfl rfl rfl (by rw [hz2]; omega) (by unfold maxLen; omega) (Nat.le_refl _) ?_; intro w1 hown hgrow; refine Hid.out ?_)
    refine Lib.hid ?_
    have HF := Lib.hid (FN.made (E := ES) hown hgrow)
    clear hown hgrow
    go_wp2
    go_loopw [18] (fun i wr => ∃ k : Nat, k ≤ n ∧ i = .int .i64 k ∧ FN ES 26 w w.heap.size n ((xs.take k).map (fun x => [((0 : Int), x)])) wr ∧ (∀ j, j < k → 0 ≤ xs.getD j 0 ∧ xs.getD j 0 ≤ 1048576)) (fun i _ => n - (intOf i).toNat)
    case atStart => exact ⟨0, Nat.zero_le _, rfl, HF.out, fun j hj => absurd hj (by omega)⟩
    case round =>
      obtain ⟨k, hk, rfl, hf, hpre⟩ := hrel
      have HFk := Lib.hid hf
      have HP := Lib.hid hpre
      clear hf hpre
      by_cases hlt : k < n
      · have hRn := Lib.hid (HR.out.next HFk.out.below)
        obtain ⟨b, off, rfl, _, hc⟩ := hRn.out.one hlt
        have hs1 : Hid ((xs.take (k + 1)).map (fun x => [((0 : Int), x)]) = (xs.take k).map (fun x => [((0 : Int), x)]) ++ [[(0, xs.getD k 0)]]) := Lib.hid (by
          have hl : k < xs.length := by rw [HR.out.1]; exact hlt
          rw [List.take_succ_eq_append_getElem hl, List.getD, List.getElem?_eq_getElem hl, List.map_append]; rfl)
        have hlk : Hid (((xs.take k).map (fun x => [((0 : Int), x)])).length = k) := Lib.hid (by rw [List.length_map, List.length_take, HR.out.1]; omega)
        obtain ⟨x, hx⟩ : ∃ x, xs.getD k 0 = x := ⟨_, rfl⟩
        rw [hx] at hc hs1
        have HX := Lib.hid hx
        clear hx
        by_cases hgood : 0 ≤ x ∧ x ≤ 1048576
        · have e1 : newR x = ([(0, x)], 0) := by unfold newR; rw [if_pos hgood]
          have HNW := Lib.hid (calls_opost (stepNew_own x wr) e1)
          have HP1 : Hid (∀ j, j < k + 1 → 0 ≤ xs.getD j 0 ∧ xs.getD j 0 ≤ 1048576) := Lib.hid (by
            intro j hj
            rcases Nat.lt_or_ge j k with h' | h'
            · exact HP.out j h'
            · obtain rfl : j = k := by omega
              rw [HX.out]; exact hgood)
          clear e1 hgood
          go_wp2_with fail
          refine HNW.out.mono ?_
          rintro e w3 ⟨v, rfl, hso⟩
          have HF3 := Lib.hid (HFk.out.next es_steady hso.2)
          obtain ⟨A3, c3, rfl, hes⟩ := es_own hso HFk.out.lt.2 (by show 1 ≤ maxLen; unfold maxLen; omega)
          have HS3 := Lib.hid (HF3.out.set es_steady hlk.out hlt hes)
          obtain ⟨⟨u0, hu0⟩, hfz⟩ := HF3.out.slot hlt
          clear hso hes hc
          go_wp2
          go_roundw
          case rel => exact ⟨k + 1, by omega, by go_num, by rw [hs1.out]; exact HS3.out, HP1.out⟩
          case measure => simp [intOf]; omega
        · have e1 : newR x = ([], 1) := by unfold newR; rw [if_neg hgood]
          have HNW := Lib.hid (calls_opost (stepNew_own x wr) e1)
          have hz : r = ([], 1) := by rw [← HRES.out]; exact newPP_no (j := k) (by rw [HR.out.1]; exact hlt) (by rw [HX.out]; exact hgood)
          subst hz
          clear e1 hgood
          go_wp2_with fail
          refine HNW.out.mono ?_
          rintro e w3 ⟨v, rfl, hso⟩
          have HB3 := Lib.hid (HFk.out.below.trans (hso.2.mono HFk.out.below.size))
          clear hso hc
          go_wp2
          go_ret2
          exact ppost_mk RSS.nil (fun _ => rfl) (Nat.le_refl _) HB3.out
      · have hkn : k = n := by omega
        subst hkn
        have hz : r = (xs.map (fun x => [(0, x)]), 0) := by
          rw [← HRES.out]
          unfold newPP
          rw [if_pos ⟨by rw [HR.out.1]; exact hk1, by rw [HR.out.1]; exact hk2, fun j hj => HP.out j (by rw [HR.out.1] at hj; exact hj)⟩]
        subst hz
        have hF : Hid (FN ES 26 w w.heap.size k (xs.map (fun x => [((0 : Int), x)])) wr) := Lib.hid (by have := HFk.out; rwa [List.take_of_length_le (by rw [HR.out.1]; omega)] at this)
        clear HFk HRES
        go_wp2
        go_ret2
        exact ppost_mk (hF.out.reads es_steady (by rw [List.length_map]; exact HR.out.1)) (fun h => by cases h) (Nat.le_refl _) hF.out.below

set_option maxRecDepth 100000 in
set_option maxHeartbeats 2000000 in
theorem poolsAt_any (A : Option Addr) (n c : Nat) (ls : List (List (Int × Int))) (t : Int) (w : World) (h : PAsk w A n c ls) :
    Calls Try.prog 19 #[.slice A n c, .int .i64 t] w (IPost (atPP ls t) w) := by
  have HA := Lib.hid h
  have HST := Lib.hid h.steps
  have hn := h.kinds
  clear h
  obtain ⟨i0, hi0, hz0, hz1, hz2⟩ := info_parts int_info
  cases hp : rightPP ls with
  | false =>
    have e0 : atPP ls t = [] := by unfold atPP; rw [hp]; rfl
    rw [e0]
    have HP := Lib.hid hp
    clear hp e0
    go_enter Try.func19, Try.ntmps19
    go_wp2_with fail
    refine (poolsRight_b HA.out HP.out).mono ?_
    rintro e w1 ⟨rfl, hB⟩
    have HB := Lib.hid hB
    clear hB
    go_wp2
    go_ret
    exact ⟨⟨none, 0, rfl, RI.nil, fun _ => rfl, Nat.le_refl _⟩, HB.out⟩
  | true =>
    have e0 : atPP ls t = ls.map (fun p => atR p t) := by unfold atPP; rw [if_pos hp]
    rw [e0]
    have HP := Lib.hid hp
    clear hp e0
    go_enter Try.func19, Try.ntmps19
    go_wp2_with fail
    refine (poolsRight_b HA.out HP.out).mono ?_
    rintro e w1 ⟨rfl, hB⟩
    have HB := Lib.hid hB
    have HR := Lib.hid (HA.out.reads.next hB)
    clear hB
    go_wp2_with (at_make; refine wpList_make_full _ rfl _ _ 23 rfl w1.heap.size 3 i0 (.int .i64 0) 1 Try.underlying23 hi0 hz0 hz1 .i64 .i64 _ _ n rfl rfl rfl rfl (by rw [hz2]; omega) (by unfold maxLen; omega) (Nat.le_refl _) ?_; intro w2 hown hgrow; refine Hid.out ?_)
    refine Lib.hid ?_
    have HF := Lib.hid (FN.made (E := EI) hown hgrow)
    clear hown hgrow
    go_wp2
    go_loopw [16] (fun i wr => ∃ k : Nat, k ≤ n ∧ i = .int .i64 k ∧ FN EI 3 w1 w1.heap.size n ((ls.take k).map (fun p => atR p t)) wr) (fun i _ => n - (intOf i).toNat)
    case atStart => exact ⟨0, Nat.zero_le _, rfl, HF.out⟩
    case round =>
      obtain ⟨k, hk, rfl, hf⟩ := hrel
      have HFk := Lib.hid hf
      clear hf
      by_cases hlt : k < n
      · have hRn := Lib.hid (HR.out.next HFk.out.below)
        obtain ⟨b, off, A', m, c', rfl, _, hc, hr', hnil', _, _⟩ := hRn.out.one hlt
        have hm : Hid (m ≤ 2000) := Lib.hid (by have h1 := HST.out k hlt; have h2 := hr'.1; omega)
        have HR' := Lib.hid hr'
        clear hr' hnil'
        have hs1 : Hid ((ls.take (k + 1)).map (fun p => atR p t) = (ls.take k).map (fun p => atR p t) ++ [atR (ls.getD k []) t]) := Lib.hid (by
          have hl : k < ls.length := by rw [HR.out.len]; exact hlt
          rw [List.take_succ_eq_append_getElem hl, List.getD, List.getElem?_eq_getElem hl, List.map_append]; rfl)
        have hlk : Hid (((ls.take k).map (fun p => atR p t)).length = k) := Lib.hid (by rw [List.length_map, List.length_take, HR.out.len]; omega)
        generalize ls.getD k [] = p at *
        go_wp2_with fail
        refine (stepAtF_any A' m c' p t _ HR'.out hm.out).mono ?_
        rintro e w3 ⟨rfl, hB3⟩
        have HF3 := Lib.hid (HFk.out.next ei_steady hB3)
        generalize atR p t = y at *
        have HS3 := Lib.hid (HF3.out.set ei_steady hlk.out hlt (x := y) (u := .int .i64 y) rfl)
        obtain ⟨⟨u0, hu0⟩, hfz⟩ := HF3.out.slot hlt
        clear hB3 hc
        go_wp2
        go_roundw
        case rel => exact ⟨k + 1, by omega, by go_num, by rw [hs1.out]; exact HS3.out⟩
        case measure => simp [intOf]; omega
      · have hkn : k = n := by omega
        subst hkn
        have hF : Hid (FN EI 3 w1 w1.heap.size k (ls.map (fun p => atR p t)) wr) := Lib.hid (by have := HFk.out; rwa [List.take_of_length_le (by rw [HR.out.len]; omega)] at this)
        have hL : Hid ((ls.map (fun p => atR p t)).length = k) := Lib.hid (by rw [List.length_map]; exact HR.out.len)
        clear HFk
        go_wp2
        go_ret
        exact ipost_mk (hF.out.reads ei_steady hL.out).ri (fun h => by cases h) (Nat.le_refl _) (HB.out.trans (hF.out.below.mono HB.out.size))

end Go.Proofs.Ytkhnlbkghjjdnaa
