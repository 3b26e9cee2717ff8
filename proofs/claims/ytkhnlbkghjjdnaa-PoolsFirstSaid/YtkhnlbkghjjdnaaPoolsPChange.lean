/- The program's Take and Give of layer 4 (pools), by its change: what they answer of any list of profiles, span and amounts. -/
import Derived.Test.YtkhnlbkghjjdnaaPoolsPNew
namespace Go.Proofs.Ytkhnlbkghjjdnaa
open Go.RowKit

theorem asked_bad {give : Bool} {ls : List (List (Int × Int))} {a b : Int} {ns : List Int} (h : askedB ls ns = false) : changePP give ls a b ns = (ls, 1) := by
  refine changePP_bad ?_
  unfold askedB at h
  rw [Bool.and_eq_false_iff, decide_eq_false_iff_not] at h
  exact h
theorem asked_yes {ls : List (List (Int × Int))} {ns : List Int} (h : askedB ls ns = true) : rightPP ls = true ∧ ns.length = ls.length := by
  unfold askedB at h
  rwa [Bool.and_eq_true, decide_eq_true_eq] at h

set_option maxRecDepth 100000 in
set_option maxHeartbeats 4000000 in
theorem poolsChange_take (A : Option Addr) (n c : Nat) (A2 : Option Addr) (n2 c2 : Nat) (ls : List (List (Int × Int))) (a b : Int) (ns : List Int) (w : World) (h : PAsk w A n c ls) (h2 : NAsk w A2 n2 ns) :
    Calls Try.prog 30 #[.slice A n c, .int .i64 a, .int .i64 b, .slice A2 n2 c2, .func (.func 25) #[] #[]] w (PPost (changePP false ls a b ns).1 (changePP false ls a b ns).2 w) := by
  have HA := Lib.hid h
  have HN := Lib.hid h2
  have HST := Lib.hid h.steps
  have hn := h.kinds
  clear h h2
  obtain ⟨i0, hi0, hz0, hz1, hz2⟩ := info_parts slsl_info
  cases hask : askedB ls ns with
  | false =>
    have e0 : changePP false ls a b ns = (ls, 1) := asked_bad hask
    rw [e0]
    have HK := Lib.hid hask
    clear hask e0
    go_enter Try.func30, Try.ntmps30
    go_wp2_with fail
    refine (asked_b HA.out HN.out.reads.1 HK.out).mono ?_
    rintro e w1 ⟨rfl, hB⟩
    have HB := Lib.hid hB
    have HA1 := Lib.hid (HA.out.next hB)
    clear hB
    go_wp2_with fail
    refine (poolsSame_any A n c ls w1 HA1.out).mono ?_
    rintro e w2 ⟨g, rfl, hr2, hb2⟩
    have HR2 := Lib.hid hr2
    have HB2 := Lib.hid (HB.out.trans (hb2.mono HB.out.size))
    clear hr2 hb2
    go_wp2
    go_ret2
    exact ppost_mk HR2.out (fun h => by cases h) (Nat.le_refl _) HB2.out
  | true =>
    have hy := asked_yes hask
    have HRP := Lib.hid hy.1
    have HLEN := Lib.hid hy.2
    have hnn : n2 = n := by rw [← HN.out.reads.1, ← HA.out.reads.len]; exact hy.2
    subst hnn
    have HK := Lib.hid hask
    clear hask hy
    obtain ⟨r, hr0⟩ : ∃ r, changePP false ls a b ns = r := ⟨_, rfl⟩
    have HRES := Lib.hid hr0
    rw [hr0]
    clear hr0
    go_enter Try.func30, Try.ntmps30
    go_wp2_with fail
    refine (asked_b HA.out HN.out.reads.1 HK.out).mono ?_
    rintro e w1 ⟨rfl, hB⟩
    have HB := Lib.hid hB
    have HA1 := Lib.hid (HA.out.next hB)
    have HN1 := Lib.hid (HN.out.next hB)
    clear hB
    go_wp2_with (at_make; refine wpList_make_full _ rfl _ _ 22 rfl w1.heap.size 26 i0 (.slice none 0 0) 1 Try.underlying22 hi0 hz0 hz1 .i64 .i64 _ _ n2 rfl rfl rfl rfl (by rw [hz2]; omega) (by unfold maxLen; omega) (Nat.le_refl _) ?_; intro w2 hown hgrow; refine Hid.out ?_)
    refine Lib.hid ?_
    have HF := Lib.hid (FN.made (E := ES) hown hgrow)
    clear hown hgrow
    go_wp2
    go_loopw [28] (fun i wr => ∃ k : Nat, k ≤ n2 ∧ i = .int .i64 k ∧ FN ES 26 w1 w1.heap.size n2 (headPP false ls a b ns k) wr ∧ (∀ j, j < k → (opR false (ls.getD j []) a b (ns.getD j 0)).2 = 0)) (fun i _ => n2 - (intOf i).toNat)
    case atStart => exact ⟨0, Nat.zero_le _, rfl, HF.out, fun j hj => absurd hj (by omega)⟩
    case round =>
      obtain ⟨k, hk, rfl, hf, hpre⟩ := hrel
      have HFk := Lib.hid hf
      have HP := Lib.hid hpre
      clear hf hpre
      by_cases hlt : k < n2
      · have hRn := Lib.hid (HA1.out.reads.next HFk.out.below)
        obtain ⟨b0, off, A', m, c', rfl, _, hc, hr', hnil', hnc', _⟩ := hRn.out.one hlt
        have hNr := Lib.hid (HN1.out.reads.next HFk.out.below)
        obtain ⟨b2, off2, rfl, _, hc2⟩ := hNr.out.one hlt
        have hm : Hid (m ≤ 2000) := Lib.hid (by have h1 := HST.out k hlt; have h2 := hr'.1; omega)
        have HR' := Lib.hid hr'
        have HNIL' := Lib.hid hnil'
        have HNC' := Lib.hid hnc'
        clear hr' hnil' hnc'
        have hlk : Hid ((headPP false ls a b ns k).length = k) := Lib.hid (headPP_len _ _ _ _ _ _)
        have HL := Lib.hid (takeR_len (ls.getD k []) a b (ns.getD k 0))
        obtain ⟨p, hp⟩ : ∃ p, ls.getD k [] = p := ⟨_, rfl⟩
        obtain ⟨x, hx⟩ : ∃ x, ns.getD k 0 = x := ⟨_, rfl⟩
        rw [hx] at hc2 HL
        rw [hp] at HR' HL
        have HPk := Lib.hid hp
        have HX := Lib.hid hx
        clear hp hx
        obtain ⟨l, hl⟩ : ∃ l, (takeR p a b x).1 = l := ⟨_, rfl⟩
        obtain ⟨er, her⟩ : ∃ er, (takeR p a b x).2 = er := ⟨_, rfl⟩
        have HOP := Lib.hid (stepTake_own A' m c' p a b x wr HR'.out HNIL'.out HNC'.out hm.out)
        rw [hl] at HL
        rw [hl, her] at HOP
        have HLe := Lib.hid hl
        have HEe := Lib.hid her
        clear hl her
        go_wp2_with fail
        refine HOP.out.mono ?_
        rintro e w3 ⟨v, rfl, hso⟩
        have HF3 := Lib.hid (HFk.out.next es_steady hso.2)
        by_cases he : er = 0
        · obtain ⟨A3, c3, rfl, hes⟩ := es_own hso HFk.out.lt.2 (by have h1 := hm.out; have h2 := HR'.out.1; have h3 := HL.out; unfold maxLen; omega)
          have HS3 := Lib.hid (HF3.out.set es_steady hlk.out hlt hes)
          obtain ⟨⟨u0, hu0⟩, hfz⟩ := HF3.out.slot hlt
          subst he
          have hs1 : Hid (headPP false ls a b ns (k + 1) = headPP false ls a b ns k ++ [l]) := Lib.hid (by rw [headPP_succ]; show _ ++ [(takeR (ls.getD k []) a b (ns.getD k 0)).1] = _; rw [HPk.out, HX.out, HLe.out])
          have hp1 : Hid (∀ j, j < k + 1 → (opR false (ls.getD j []) a b (ns.getD j 0)).2 = 0) := Lib.hid (by
            intro j hj
            rcases Nat.lt_or_ge j k with h' | h'
            · exact HP.out j h'
            · obtain rfl : j = k := by omega
              show (takeR (ls.getD j []) a b (ns.getD j 0)).2 = 0
              rw [HPk.out, HX.out, HEe.out])
          clear hso hes hc hc2
          go_wp2
          go_roundw
          case rel => exact ⟨k + 1, by omega, by go_num, by rw [hs1.out]; exact HS3.out, hp1.out⟩
          case measure => simp [intOf]; omega
        · have hne : (er != 0) = true := by simpa using he
          have HC := Lib.hid (changePP_err (give := false) (a := a) (b := b) HRP.out HLEN.out (by rw [HA.out.reads.len]; exact hlt) HP.out (by show (takeR (ls.getD k []) a b (ns.getD k 0)).2 ≠ 0; rw [HPk.out, HX.out, HEe.out]; exact he))
          have hz : r = (ls, er) := by rw [← HRES.out, HC.out]; show (ls, (takeR (ls.getD k []) a b (ns.getD k 0)).2) = _; rw [HPk.out, HX.out, HEe.out]
          subst hz
          have HBB := Lib.hid (HF3.out.below)
          have HA3 := Lib.hid (HA1.out.next HBB.out)
          clear hso hc hc2 HC HRES
          go_wp2_with fail
          refine (poolsSame_any _ n2 c ls w3 HA3.out).mono ?_
          rintro e w4 ⟨g, rfl, hr4, hb4⟩
          have HR4 := Lib.hid hr4
          have HB4 := Lib.hid (HB.out.trans ((HBB.out.trans (hb4.mono HBB.out.size)).mono HB.out.size))
          clear hr4 hb4
          go_wp2
          go_ret2
          exact ppost_mk HR4.out (fun h => by cases h) (Nat.le_refl _) HB4.out
      · have hkn : k = n2 := by omega
        subst hkn
        have hz : r = (headPP false ls a b ns k, 0) := by
          rw [← HRES.out, changePP_ok (give := false) (a := a) (b := b) HRP.out HLEN.out (by rw [HA.out.reads.len]; exact HP.out), HA.out.reads.len]
        subst hz
        clear HRES
        go_wp2
        go_ret2
        exact ppost_mk (HFk.out.reads es_steady (headPP_len _ _ _ _ _ _)) (fun h => by cases h) (Nat.le_refl _) (HB.out.trans (HFk.out.below.mono HB.out.size))

set_option maxRecDepth 100000 in
set_option maxHeartbeats 4000000 in
theorem poolsChange_give (A : Option Addr) (n c : Nat) (A2 : Option Addr) (n2 c2 : Nat) (ls : List (List (Int × Int))) (a b : Int) (ns : List Int) (w : World) (h : PAsk w A n c ls) (h2 : NAsk w A2 n2 ns) :
    Calls Try.prog 30 #[.slice A n c, .int .i64 a, .int .i64 b, .slice A2 n2 c2, .func (.func 33) #[] #[]] w (PPost (changePP true ls a b ns).1 (changePP true ls a b ns).2 w) := by
  have HA := Lib.hid h
  have HN := Lib.hid h2
  have HST := Lib.hid h.steps
  have hn := h.kinds
  clear h h2
  obtain ⟨i0, hi0, hz0, hz1, hz2⟩ := info_parts slsl_info
  cases hask : askedB ls ns with
  | false =>
    have e0 : changePP true ls a b ns = (ls, 1) := asked_bad hask
    rw [e0]
    have HK := Lib.hid hask
    clear hask e0
    go_enter Try.func30, Try.ntmps30
    go_wp2_with fail
    refine (asked_b HA.out HN.out.reads.1 HK.out).mono ?_
    rintro e w1 ⟨rfl, hB⟩
    have HB := Lib.hid hB
    have HA1 := Lib.hid (HA.out.next hB)
    clear hB
    go_wp2_with fail
    refine (poolsSame_any A n c ls w1 HA1.out).mono ?_
    rintro e w2 ⟨g, rfl, hr2, hb2⟩
    have HR2 := Lib.hid hr2
    have HB2 := Lib.hid (HB.out.trans (hb2.mono HB.out.size))
    clear hr2 hb2
    go_wp2
    go_ret2
    exact ppost_mk HR2.out (fun h => by cases h) (Nat.le_refl _) HB2.out
  | true =>
    have hy := asked_yes hask
    have HRP := Lib.hid hy.1
    have HLEN := Lib.hid hy.2
    have hnn : n2 = n := by rw [← HN.out.reads.1, ← HA.out.reads.len]; exact hy.2
    subst hnn
    have HK := Lib.hid hask
    clear hask hy
    obtain ⟨r, hr0⟩ : ∃ r, changePP true ls a b ns = r := ⟨_, rfl⟩
    have HRES := Lib.hid hr0
    rw [hr0]
    clear hr0
    go_enter Try.func30, Try.ntmps30
    go_wp2_with fail
    refine (asked_b HA.out HN.out.reads.1 HK.out).mono ?_
    rintro e w1 ⟨rfl, hB⟩
    have HB := Lib.hid hB
    have HA1 := Lib.hid (HA.out.next hB)
    have HN1 := Lib.hid (HN.out.next hB)
    clear hB
    go_wp2_with (at_make; refine wpList_make_full _ rfl _ _ 22 rfl w1.heap.size 26 i0 (.slice none 0 0) 1 Try.underlying22 hi0 hz0 hz1 .i64 .i64 _ _ n2 rfl rfl rfl rfl (by rw [hz2]; omega) (by unfold maxLen; omega) (Nat.le_refl _) ?_; intro w2 hown hgrow; refine Hid.out ?_)
    refine Lib.hid ?_
    have HF := Lib.hid (FN.made (E := ES) hown hgrow)
    clear hown hgrow
    go_wp2
    go_loopw [28] (fun i wr => ∃ k : Nat, k ≤ n2 ∧ i = .int .i64 k ∧ FN ES 26 w1 w1.heap.size n2 (headPP true ls a b ns k) wr ∧ (∀ j, j < k → (opR true (ls.getD j []) a b (ns.getD j 0)).2 = 0)) (fun i _ => n2 - (intOf i).toNat)
    case atStart => exact ⟨0, Nat.zero_le _, rfl, HF.out, fun j hj => absurd hj (by omega)⟩
    case round =>
      obtain ⟨k, hk, rfl, hf, hpre⟩ := hrel
      have HFk := Lib.hid hf
      have HP := Lib.hid hpre
      clear hf hpre
      by_cases hlt : k < n2
      · have hRn := Lib.hid (HA1.out.reads.next HFk.out.below)
        obtain ⟨b0, off, A', m, c', rfl, _, hc, hr', hnil', hnc', _⟩ := hRn.out.one hlt
        have hNr := Lib.hid (HN1.out.reads.next HFk.out.below)
        obtain ⟨b2, off2, rfl, _, hc2⟩ := hNr.out.one hlt
        have hm : Hid (m ≤ 2000) := Lib.hid (by have h1 := HST.out k hlt; have h2 := hr'.1; omega)
        have HR' := Lib.hid hr'
        have HNIL' := Lib.hid hnil'
        have HNC' := Lib.hid hnc'
        clear hr' hnil' hnc'
        have hlk : Hid ((headPP true ls a b ns k).length = k) := Lib.hid (headPP_len _ _ _ _ _ _)
        have HL := Lib.hid (giveR_len (ls.getD k []) a b (ns.getD k 0))
        obtain ⟨p, hp⟩ : ∃ p, ls.getD k [] = p := ⟨_, rfl⟩
        obtain ⟨x, hx⟩ : ∃ x, ns.getD k 0 = x := ⟨_, rfl⟩
        rw [hx] at hc2 HL
        rw [hp] at HR' HL
        have HPk := Lib.hid hp
        have HX := Lib.hid hx
        clear hp hx
        obtain ⟨l, hl⟩ : ∃ l, (giveR p a b x).1 = l := ⟨_, rfl⟩
        obtain ⟨er, her⟩ : ∃ er, (giveR p a b x).2 = er := ⟨_, rfl⟩
        have HOP := Lib.hid (stepGive_own A' m c' p a b x wr HR'.out HNIL'.out HNC'.out hm.out)
        rw [hl] at HL
        rw [hl, her] at HOP
        have HLe := Lib.hid hl
        have HEe := Lib.hid her
        clear hl her
        go_wp2_with fail
        refine HOP.out.mono ?_
        rintro e w3 ⟨v, rfl, hso⟩
        have HF3 := Lib.hid (HFk.out.next es_steady hso.2)
        by_cases he : er = 0
        · obtain ⟨A3, c3, rfl, hes⟩ := es_own hso HFk.out.lt.2 (by have h1 := hm.out; have h2 := HR'.out.1; have h3 := HL.out; unfold maxLen; omega)
          have HS3 := Lib.hid (HF3.out.set es_steady hlk.out hlt hes)
          obtain ⟨⟨u0, hu0⟩, hfz⟩ := HF3.out.slot hlt
          subst he
          have hs1 : Hid (headPP true ls a b ns (k + 1) = headPP true ls a b ns k ++ [l]) := Lib.hid (by rw [headPP_succ]; show _ ++ [(giveR (ls.getD k []) a b (ns.getD k 0)).1] = _; rw [HPk.out, HX.out, HLe.out])
          have hp1 : Hid (∀ j, j < k + 1 → (opR true (ls.getD j []) a b (ns.getD j 0)).2 = 0) := Lib.hid (by
            intro j hj
            rcases Nat.lt_or_ge j k with h' | h'
            · exact HP.out j h'
            · obtain rfl : j = k := by omega
              show (giveR (ls.getD j []) a b (ns.getD j 0)).2 = 0
              rw [HPk.out, HX.out, HEe.out])
          clear hso hes hc hc2
          go_wp2
          go_roundw
          case rel => exact ⟨k + 1, by omega, by go_num, by rw [hs1.out]; exact HS3.out, hp1.out⟩
          case measure => simp [intOf]; omega
        · have hne : (er != 0) = true := by simpa using he
          have HC := Lib.hid (changePP_err (give := true) (a := a) (b := b) HRP.out HLEN.out (by rw [HA.out.reads.len]; exact hlt) HP.out (by show (giveR (ls.getD k []) a b (ns.getD k 0)).2 ≠ 0; rw [HPk.out, HX.out, HEe.out]; exact he))
          have hz : r = (ls, er) := by rw [← HRES.out, HC.out]; show (ls, (giveR (ls.getD k []) a b (ns.getD k 0)).2) = _; rw [HPk.out, HX.out, HEe.out]
          subst hz
          have HBB := Lib.hid (HF3.out.below)
          have HA3 := Lib.hid (HA1.out.next HBB.out)
          clear hso hc hc2 HC HRES
          go_wp2_with fail
          refine (poolsSame_any _ n2 c ls w3 HA3.out).mono ?_
          rintro e w4 ⟨g, rfl, hr4, hb4⟩
          have HR4 := Lib.hid hr4
          have HB4 := Lib.hid (HB.out.trans ((HBB.out.trans (hb4.mono HBB.out.size)).mono HB.out.size))
          clear hr4 hb4
          go_wp2
          go_ret2
          exact ppost_mk HR4.out (fun h => by cases h) (Nat.le_refl _) HB4.out
      · have hkn : k = n2 := by omega
        subst hkn
        have hz : r = (headPP true ls a b ns k, 0) := by
          rw [← HRES.out, changePP_ok (give := true) (a := a) (b := b) HRP.out HLEN.out (by rw [HA.out.reads.len]; exact HP.out), HA.out.reads.len]
        subst hz
        clear HRES
        go_wp2
        go_ret2
        exact ppost_mk (HFk.out.reads es_steady (headPP_len _ _ _ _ _ _)) (fun h => by cases h) (Nat.le_refl _) (HB.out.trans (HFk.out.below.mono HB.out.size))

section
variable (A : Option Addr) (n c : Nat) (A2 : Option Addr) (n2 c2 : Nat) (ls : List (List (Int × Int))) (a b : Int) (ns : List Int) (w : World)
theorem poolsTake_any (h : PAsk w A n c ls) (h2 : NAsk w A2 n2 ns) : Calls Try.prog 11 #[.slice A n c, .int .i64 a, .int .i64 b, .slice A2 n2 c2] w (PPost (changePP false ls a b ns).1 (changePP false ls a b ns).2 w) := by
  have HC := Lib.hid (poolsChange_take A n c A2 n2 c2 ls a b ns w h h2)
  clear h h2
  generalize (changePP false ls a b ns).1 = l at *
  generalize (changePP false ls a b ns).2 = er at *
  go_enter Try.func11, Try.ntmps11
  go_wp2_with fail
  refine HC.out.mono ?_
  rintro e w1 ⟨⟨A1, c1, rfl, hr, hnil, hnc⟩, hb⟩
  have H := Lib.hid (And.intro hr (And.intro hnil (And.intro hnc hb)))
  clear hr hnil hnc hb
  go_wp2
  go_ret2
  exact ⟨⟨A1, c1, rfl, H.out.1, H.out.2.1, H.out.2.2.1⟩, H.out.2.2.2⟩
theorem poolsGive_any (h : PAsk w A n c ls) (h2 : NAsk w A2 n2 ns) : Calls Try.prog 13 #[.slice A n c, .int .i64 a, .int .i64 b, .slice A2 n2 c2] w (PPost (changePP true ls a b ns).1 (changePP true ls a b ns).2 w) := by
  have HC := Lib.hid (poolsChange_give A n c A2 n2 c2 ls a b ns w h h2)
  clear h h2
  generalize (changePP true ls a b ns).1 = l at *
  generalize (changePP true ls a b ns).2 = er at *
  go_enter Try.func13, Try.ntmps13
  go_wp2_with fail
  refine HC.out.mono ?_
  rintro e w1 ⟨⟨A1, c1, rfl, hr, hnil, hnc⟩, hb⟩
  have H := Lib.hid (And.intro hr (And.intro hnil (And.intro hnc hb)))
  clear hr hnil hnc hb
  go_wp2
  go_ret2
  exact ⟨⟨A1, c1, rfl, H.out.1, H.out.2.1, H.out.2.2.1⟩, H.out.2.2.2⟩
end

end Go.Proofs.Ytkhnlbkghjjdnaa
