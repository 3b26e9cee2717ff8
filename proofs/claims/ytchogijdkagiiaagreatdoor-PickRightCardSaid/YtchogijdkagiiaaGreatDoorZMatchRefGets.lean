/- The reference's Gets of layer 9 (bailiwickref09): what a spec gets in a node. -/
import Derived.Deep.QuietTactic
import Derived.BigQuiet
import Derived.Test.YtchogijdkagiiaaGreatDoorMg08
import Derived.Test.YtchogijdkagiiaaGreatDoorMg04
import Derived.Test.YtchogijdkagiiaaGreatDoorMg01
namespace Go.Proofs.YtchogijdkagiiaaGreatDoor
open Go.RowKit

/-- numbers and a yes or no, read from whatever memory; all that was there is kept -/
def IBPost (l : List Int) (b : Bool) (w : World) (e : Ending) (w' : World) : Prop :=
  (∃ A c, e = .returned (.tuple #[.slice A l.length c, .bool b]) ∧ RI w' w'.heap.size A l.length l ∧ (A = none → c = 0) ∧ l.length ≤ c) ∧ Below w.heap.size w w'
theorem ibpost_mk {A : Option Addr} {n c : Nat} {xs : List Int} {b : Bool} {w w' : World} (hr : RI w' w'.heap.size A n xs) (hnil : A = none → c = 0) (hnc : n ≤ c) (hb : Below w.heap.size w w') : IBPost xs b w (.returned (.tuple #[.slice A n c, .bool b])) w' := by
  have := hr.1
  subst this
  exact ⟨⟨A, c, rfl, hr, hnil, hnc⟩, hb⟩
theorem ibpost_nil {b : Bool} {w w' : World} (hb : Below w.heap.size w w') : IBPost [] b w (.returned (.tuple #[.slice none 0 0, .bool b])) w' := ibpost_mk RI.nil (fun _ => rfl) (Nat.le_refl _) hb
theorem ibpost_on {t : TypeId} {l l' : List Int} {b : Bool} {w W w' : World} {v : Value} (h : ON EI 1 t W v l w') (e : l = l') (hb : Below w.heap.size w W) : IBPost l' b w (.returned (.tuple #[v, .bool b])) w' := by
  subst e
  obtain ⟨A, c, rfl, h1, h2⟩ := h.form
  exact ⟨⟨A, c, rfl, (h.reads ei_steady (by omega) rfl).ri, h1, h2⟩, hb.trans (h.below.mono hb.size)⟩
theorem getsL_no {g : Gr} {F : List Int} {s : Sp} {k : Nat} (h : suitP g F s k = false) : getsL g F s k = [] := by unfold getsL; rw [if_neg (by rw [h]; simp)]
theorem getsL_yes {g : Gr} {F : List Int} {s : Sp} {k : Nat} (h : suitP g F s k = true) : getsL g F s k = numsF (getP g F s k) g.length := by unfold getsL; rw [if_pos h]
theorem suit_kind {g : Gr} {F : List Int} {s : Sp} {k : Nat} (h : gk g k ≠ 2) : suitP g F s k = false := by
  rw [← Bool.not_eq_true, suitP_is]; exact fun h' => h h'.1
theorem suit_has {g : Gr} {F : List Int} {s : Sp} {k : Nat} (h : hasB F (k : Int) = false) : suitP g F s k = false := by
  rw [← Bool.not_eq_true, suitP_is]; exact fun h' => by rw [h] at h'; cases h'.2.1
theorem suit_tag {g : Gr} {F : List Int} {s : Sp} {k : Nat} (h0 : s.tag.size ≠ 0) (h : s.tag ≠ gt g k) : suitP g F s k = false := by
  rw [← Bool.not_eq_true, suitP_is]; exact fun h' => h'.2.2.1.elim h0 h
theorem suit_part {g : Gr} {F : List Int} {s : Sp} {k : Nat} (h2 : gk g k = 2) (hf : hasB F (k : Int) = true) (ht : s.tag.size = 0 ∨ s.tag = gt g k) (hw : s.whole = false) : suitP g F s k = decide (s.cores ≤ frN g F 3 k g.length ∧ s.gpus ≤ frN g F 4 k g.length) := by
  rw [Bool.eq_iff_iff, suitP_is, decide_eq_true_eq]
  exact ⟨fun h => h.2.2.2.1, fun h => ⟨h2, hf, ht, h, fun e => by rw [hw] at e; cases e⟩⟩
theorem toList_ne {a b : ByteArray} (h : a ≠ b) : (a.toList == b.toList) = false := by
  rw [beq_eq_false_iff_ne, ByteArray.toList_eq, ByteArray.toList_eq]
  intro e
  apply h
  apply ByteArray.ext
  exact Array.ext' e

set_option maxRecDepth 100000 in
set_option maxHeartbeats 8000000 in
theorem refGets_no (A : Option Addr) (n c : Nat) (A2 : Option Addr) (n2 c2 : Nat) (g : Gr) (F : List Int) (s : Sp) (k : Nat) (w : World) (hr : RG w w.heap.size A n g) (hn : n ≤ maxLen) (hr2 : RI w w.heap.size A2 n2 F) (hn2 : n2 ≤ maxLen) (hs : SAsk s) (hg : rightG g = true) (hk : k < n) (hno : gk g k ≠ 2 ∨ (gk g k = 2 ∧ hasB F (k : Int) = false) ∨ (gk g k = 2 ∧ hasB F (k : Int) = true ∧ s.tag.size ≠ 0 ∧ s.tag ≠ gt g k)) :
    Calls Tryz.prog 93 #[.slice A n c, .slice A2 n2 c2, .agg #[.int .i64 s.nodes, .int .i64 s.cores, .int .i64 s.gpus, .string s.tag, .bool s.whole, .int .i64 s.long, .int .i64 s.prio], .int .i64 k] w (IBPost (getsL g F s k) (suitP g F s k) w) := by
  have HSN := Lib.hid hs
  obtain ⟨W, hW⟩ : ∃ W, W = w.alloc (spO s) := ⟨_, rfl⟩
  have BX : Hid (BoxS W w.heap.size s) := Lib.hid (by rw [hW]; exact box_new w s)
  have hb0 : Below w.heap.size w W := by rw [hW]; exact (Below.refl _ _).alloc (Nat.le_refl _) _
  have HB := Lib.hid hb0
  have HR := Lib.hid (hr.next hb0)
  have HI := Lib.hid (hr2.next hb0)
  have HN := Lib.hid hn
  have HN2 := Lib.hid hn2
  have HL := Lib.hid hr.len
  have HG := Lib.hid (rightG_is hg)
  have HG' := Lib.hid hg
  have hn256 : n ≤ 256 := by have := (rightG_is hg).few; have := hr.len; omega
  have hkz : (k : Int) < (n : Int) := by omega
  unfold spO at hW
  have e0 : suitP g F s k = false := by
    rcases hno with h | ⟨_, h⟩ | ⟨_, _, h0, h⟩
    · exact suit_kind h
    · exact suit_has h
    · exact suit_tag h0 h
  rw [e0, getsL_no e0]
  clear e0
  obtain ⟨bb, off, rfl, hbb, hc0, hc1, hc2, _⟩ := HR.out.one hk
  obtain ⟨kk, hkk⟩ : ∃ kk, gk g k = kk := ⟨_, rfl⟩
  obtain ⟨tt, htt⟩ : ∃ tt, gt g k = tt := ⟨_, rfl⟩
  rw [hkk] at hc0
  rw [htt] at hc2
  have p3 := BX.out.c3
  rcases hno with h | ⟨h, hf⟩ | ⟨h, hf, h0, ht⟩
  · have hkd : (kk != 2) = true := by rw [← hkk]; simpa using h
    have hkd2 : (kk == 2) = false := by rw [← hkk]; simpa using h
    clear hr hr2 hs hg hb0 hn hn2 hkk htt h
    go_enter Tryz.func93, Tryz.ntmps93
    go_wp2
    rw [← hW]
    clear hW
    go_quiet (fail)
    go_wp2
    go_ret2
    exact ibpost_nil (bel_more HB.out _)
  · rw [hkk] at h
    subst h
    have HHAS : Hid (∀ q : Nat, Calls Tryz.prog 77 #[.slice A2 n2 c2, .int .i64 k] (W.drewN q) fun e w' => e = .returned (.bool false) ∧ ∃ m, w' = (W.drewN q).drewN m) := Lib.hid (fun q => (refHas_any A2 n2 c2 F k (W.drewN q) (HI.out.drewN q) HN2.out).mono fun _ _ ⟨h1, m, h2⟩ => ⟨by rw [h1, hf], m, h2⟩)
    clear hr hr2 hs hg hb0 hn hn2 hkk htt hf
    go_enter Tryz.func93, Tryz.ntmps93
    go_wp2
    rw [← hW]
    clear hW
    go_quiet (((go_at_call 77; exact Calls.quiet_of (HHAS.out _))))
    go_wp2
    go_ret2
    exact ibpost_nil (bel_more HB.out _)
  · rw [hkk] at h
    subst h
    have HHAS : Hid (∀ q : Nat, Calls Tryz.prog 77 #[.slice A2 n2 c2, .int .i64 k] (W.drewN q) fun e w' => e = .returned (.bool true) ∧ ∃ m, w' = (W.drewN q).drewN m) := Lib.hid (fun q => (refHas_any A2 n2 c2 F k (W.drewN q) (HI.out.drewN q) HN2.out).mono fun _ _ ⟨h1, m, h2⟩ => ⟨by rw [h1, hf], m, h2⟩)
    obtain ⟨f1, f2, f3, f4⟩ := str_facts h0
    rw [htt] at ht
    have hte := toList_ne ht
    have hte2 : (!(s.tag.toList == tt.toList)) = true := by rw [hte]; rfl
    clear hr hr2 hs hg hb0 hn hn2 hkk htt hf h0 ht
    go_enter Tryz.func93, Tryz.ntmps93
    go_wp2
    rw [← hW]
    clear hW
    go_quiet (((go_at_call 77; exact Calls.quiet_of (HHAS.out _))))
    go_wp2
    go_ret2
    exact ibpost_nil (bel_more HB.out _)
set_option maxRecDepth 100000 in
set_option maxHeartbeats 8000000 in
theorem refGets_p (A : Option Addr) (n c : Nat) (A2 : Option Addr) (n2 c2 : Nat) (g : Gr) (F : List Int) (s : Sp) (k : Nat) (w : World) (hr : RG w w.heap.size A n g) (hn : n ≤ maxLen) (hr2 : RI w w.heap.size A2 n2 F) (hn2 : n2 ≤ maxLen) (hs : SAsk s) (hg : rightG g = true) (hk : k < n) (hok : gk g k = 2 ∧ hasB F (k : Int) = true ∧ (s.tag.size = 0 ∨ s.tag = gt g k)) (hw : s.whole = false) :
    Calls Tryz.prog 93 #[.slice A n c, .slice A2 n2 c2, .agg #[.int .i64 s.nodes, .int .i64 s.cores, .int .i64 s.gpus, .string s.tag, .bool s.whole, .int .i64 s.long, .int .i64 s.prio], .int .i64 k] w (IBPost (getsL g F s k) (suitP g F s k) w) := by
  obtain ⟨i0, hi0, hz0, hz1, hz2⟩ := info_parts int_info
  have HSN := Lib.hid hs
  obtain ⟨W, hW⟩ : ∃ W, W = w.alloc (spO s) := ⟨_, rfl⟩
  have BX : Hid (BoxS W w.heap.size s) := Lib.hid (by rw [hW]; exact box_new w s)
  have hb0 : Below w.heap.size w W := by rw [hW]; exact (Below.refl _ _).alloc (Nat.le_refl _) _
  have HB := Lib.hid hb0
  have HR := Lib.hid (hr.next hb0)
  have HI := Lib.hid (hr2.next hb0)
  have HN := Lib.hid hn
  have HN2 := Lib.hid hn2
  have HL := Lib.hid hr.len
  have HG := Lib.hid (rightG_is hg)
  have HG' := Lib.hid hg
  have hn256 : n ≤ 256 := by have := (rightG_is hg).few; have := hr.len; omega
  have hkz : (k : Int) < (n : Int) := by omega
  unfold spO at hW
  obtain ⟨hq2, hqf, hqt⟩ := hok
  have HQ2 := Lib.hid hq2
  have HQF := Lib.hid hqf
  have HQT := Lib.hid hqt
  have HW := Lib.hid hw
  obtain ⟨bb, off, rfl, hbb, hc0, hc1, hc2, _⟩ := HR.out.one hk
  obtain ⟨kk, hkk⟩ : ∃ kk, gk g k = kk := ⟨_, rfl⟩
  obtain ⟨tt, htt⟩ : ∃ tt, gt g k = tt := ⟨_, rfl⟩
  rw [hkk] at hc0
  rw [htt] at hc2
  rw [hkk] at hq2
  subst hq2
  rw [htt] at hqt
  have hf := hqf
  have HHAS : Hid (∀ q : Nat, Calls Tryz.prog 77 #[.slice A2 n2 c2, .int .i64 k] (W.drewN q) fun e w' => e = .returned (.bool true) ∧ ∃ m, w' = (W.drewN q).drewN m) := Lib.hid (fun q => (refHas_any A2 n2 c2 F k (W.drewN q) (HI.out.drewN q) HN2.out).mono fun _ _ ⟨h1, m, h2⟩ => ⟨by rw [h1, hf], m, h2⟩)
  have p3 := BX.out.c3
  have HUE : Hid (underL g (k : Int) = numsF (overG g k) n) := Lib.hid (by rw [underL_is hg (by rw [HL.out]; exact hk), HL.out])
  obtain ⟨N3, hN3⟩ : ∃ N3, (numsF (overG g k) n).length = N3 := ⟨_, rfl⟩
  have HN3 := Lib.hid hN3
  have hN3b : N3 ≤ 256 := by rw [← hN3]; exact Nat.le_trans (numsF_len _ _) hn256
  have hcase : (s.tag = ⟨#[]⟩) ∨ (s.tag.size ≠ 0 ∧ tt = s.tag) := by
    by_cases h0 : s.tag.size = 0
    · exact .inl (str_empty h0)
    · exact .inr ⟨h0, (hqt.resolve_left h0).symm⟩
  clear hr hr2 hs hg hb0 hn hn2 hqf hf hkk htt hqt hN3 hw
  rcases hcase with hte | ⟨hts, rfl⟩
  · rw [hte] at p3
    clear hte
    go_enter Tryz.func93, Tryz.ntmps93
    go_wp2
    rw [← hW]
    clear hW
    go_quiet ((go_at_call 77; exact Calls.quiet_of (HHAS.out _)))
    have HBd := Lib.hid (bel_drew W nq)
    generalize W.drewN nq = W1 at *
    go_wp2_with fail
    refine (refUnderG_any _ _ _ _ _ _ (HR.out.next HBd.out) HN.out).mono ?_
    rintro e w2 ⟨⟨A3, c3, rfl, hu, hz3, hcc3⟩, hb⟩
    rw [HUE.out, HN3.out] at hu hcc3 ⊢
    have HB2 := Lib.hid (HB.out.trans ((HBd.out.trans (hb.mono HBd.out.size)).mono HB.out.size))
    have HR2 := Lib.hid ((HR.out.next HBd.out).next hb)
    have HI2 := Lib.hid ((HI.out.next HBd.out).next hb)
    have BX2 := Lib.hid ((BX.out.next HBd.out).next hb)
    have HU2 := Lib.hid hu
    have HZ3 := Lib.hid hz3
    have HC3 := Lib.hid hcc3
    clear hu hz3 hcc3 hb HHAS hc0 hc1 hc2 p3 HR HI BX HB HBd
    go_wp2
    go_loopw [11, 12, 13, 14] (fun so sc sg si wr => ∃ i m : Nat, i ≤ N3 ∧ m ≤ n ∧ si = .int .i64 i ∧ sc = .int .i64 (frN g F 3 k m) ∧ sg = .int .i64 (frN g F 4 k m) ∧ (numsF (overG g k) n).take i = numsF (overG g k) m ∧ ON EI 1 3 w2 so (numsF (getP g F s k) m) wr ) (fun _ _ _ i _ => N3 - (intOf i).toNat)
    case atStart => exact ⟨0, 0, Nat.zero_le _, Nat.zero_le _, rfl, rfl, rfl, rfl, ON.nil _⟩
    case round =>
      obtain ⟨i, m, hi, hm, rfl, rfl, rfl, ht, hon⟩ := hrel
      have HON := Lib.hid hon
      have HT := Lib.hid ht

      have hCb : frN g F 3 k m ≤ 256 := Nat.le_trans (cntP_le _ _) (by omega)
      have hDb : frN g F 4 k m ≤ 256 := Nat.le_trans (cntP_le _ _) (by omega)
      obtain ⟨C, hC⟩ : ∃ C, frN g F 3 k m = C := ⟨_, rfl⟩
      obtain ⟨D, hD⟩ : ∃ D, frN g F 4 k m = D := ⟨_, rfl⟩
      rw [hC] at hCb
      rw [hD] at hDb
      rw [hC, hD]
      have HC := Lib.hid hC
      have HD := Lib.hid hD
      clear hon ht hC hD
      have HBk := Lib.hid HON.out.below
      have BXk := Lib.hid (BX2.out.next HBk.out)
      by_cases hlt : i < N3
      · obtain ⟨x, hx1, hx2, hx3, hx4, hx5, hx6⟩ := take_next (by rw [HN3.out]; exact hlt) HT.out hm
        have HX6 := Lib.hid hx6
        have HS3 := Lib.hid (fr_step (F := F) (c := 3) hx1 hx5 hx4)
        have HS4 := Lib.hid (fr_step (F := F) (c := 4) hx1 hx5 hx4)
        have HSG := Lib.hid (get_step (F := F) (s := s) hx1 hx5)
        have HX4 := Lib.hid hx4
        have HX5 := Lib.hid hx5
        obtain ⟨bu, ou, eu, hbu, hcu⟩ := (HU2.out.next HBk.out).one hlt
        rw [hx3] at hcu
        have HIk := Lib.hid (HI2.out.next HBk.out)
        have HRk := Lib.hid (HR2.out.next HBk.out)
        have HU := Lib.hid eu
        subst eu
        clear hx3 hx4 hx5 hx6
        have hxz : (x : Int) < (n : Int) := by omega
        cases hh : hasB F (x : Int) with
        | false =>
          have HH := Lib.hid hh
          clear hh
          go_wp2_with fail
          refine (ri_has HIk.out HN2.out HH.out).mono ?_
          rintro e w4 ⟨rfl, hb⟩
          have BX4 := Lib.hid (BXk.out.next hb)
          have HONq := Lib.hid (HON.out.next ei_steady hb)
          have HB4 := Lib.hid (HB2.out.trans ((HBk.out.trans (hb.mono HBk.out.size)).mono HB2.out.size))
          clear HON hb
          have HON := HONq
          clear HONq
          have q4 := BX4.out.c4
          rw [HW.out] at q4
          have e3 : frN g F 3 k (x + 1) = C := by rw [HS3.out, HC.out, if_neg (by rw [HH.out]; simp)]; rfl
          have e4 : frN g F 4 k (x + 1) = D := by rw [HS4.out, HD.out, if_neg (by rw [HH.out]; simp)]; rfl
          have eg : numsF (getP g F s k) (x + 1) = numsF (getP g F s k) m := by
            rw [HSG.out, if_neg, List.append_nil]
            unfold getP
            rw [HW.out, HH.out]; simp
          have E3 := Lib.hid e3
          have E4 := Lib.hid e4
          have EG := Lib.hid eg
          clear e3 e4 eg
          go_wp2
          go_roundw
          case rel => exact ⟨i + 1, x + 1, by omega, by omega, by go_num, by rw [E3.out], by rw [E4.out], HX6.out, by rw [EG.out]; exact HON.out⟩
          case measure => simp [intOf]; omega
        | true =>
          have HH := Lib.hid hh
          clear hh
          obtain ⟨k3, hk3⟩ : ∃ k3, gk g x = k3 := ⟨_, rfl⟩
          have HK3 := Lib.hid hk3
          obtain ⟨bg, og, eg', hbg, hg0, _⟩ := HRk.out.one hx2
          injection eg' with eg'
          injection eg' with eg1 eg2
          subst eg1 eg2
          rw [hk3] at hg0
          clear hk3
          by_cases h3 : k3 = 3
          · subst h3
            have HNE4 : Hid ((3 : Int) ≠ 4) := Lib.hid (by decide)
            have e3 : frN g F 3 k (x + 1) = C + 1 := by rw [HS3.out, HC.out, if_pos ⟨HH.out, HK3.out⟩]
            have e4 : frN g F 4 k (x + 1) = D := by rw [HS4.out, HD.out, if_neg (fun h => HNE4.out (by rw [← HK3.out]; exact h.2))]; rfl
            by_cases hle : ((C + 1 : Nat) : Int) ≤ s.cores
            · have eg : numsF (getP g F s k) (x + 1) = numsF (getP g F s k) m ++ [(x : Int)] := by
                rw [HSG.out, if_pos]
                unfold getP
                rw [HX4.out, HW.out, HH.out, HK3.out, e3, decide_eq_true (by omega : ((C + 1 : Nat) : Int) ≤ s.cores)]
                simp
              have EG := Lib.hid eg
              clear eg
              have E3 := Lib.hid e3
              have E4 := Lib.hid e4
              have hlen : Hid ((numsF (getP g F s k) m).length ≤ 1000) := Lib.hid (by have := numsF_len (getP g F s k) m; omega)
              have hled : decide ((C : Int) + 1 ≤ s.cores) = true := by simp; omega
              clear e3 e4 hle
              go_wp2_with fail
              refine (ri_has HIk.out HN2.out HH.out).mono ?_
              rintro e w4 ⟨rfl, hb⟩
              have BX4 := Lib.hid (BXk.out.next hb)
              have HONq := Lib.hid (HON.out.next ei_steady hb)
              have hg4 := (hb.cell (p := ⟨bb, off + x * 3, none⟩) hbg).trans hg0
              clear HON hb hcu hg0
              have HON := HONq
              clear HONq
              have q1 := BX4.out.c1
              have q2 := BX4.out.c2
              have q4 := BX4.out.c4
              rw [HW.out] at q4
              go_wp2_with (at_builtin; refine wpList_append_EI rfl (.tmp 79) (.tmp 81) 23 3 rfl HON.out i0 Tryz.underlying23 hi0 hz0 hz1 hz2 rfl _ rfl hlen.out ?_; intro v5 w5 hON5; refine Hid.out ?_)
              refine Lib.hid ?_
              clear HON
              have HON := Lib.hid hON5
              obtain ⟨bh, oh, eh, hbh, hh0, _⟩ := HR2.out.one hx2
              injection eh with eh
              injection eh with eh1 eh2
              subst eh1 eh2
              rw [HK3.out] at hh0
              have hg5 := (HON.out.below.cell (p := ⟨bb, off + x * 3, none⟩) hbh).trans hh0
              clear hON5 hg4 q1 q2 q4 hh0
              go_wp2
              go_roundw
              case rel => exact ⟨i + 1, x + 1, by omega, by omega, by go_num, by rw [E3.out]; go_num, by rw [E4.out], HX6.out, by rw [EG.out]; exact HON.out⟩
              case measure => simp [intOf]; omega
            · have eg : numsF (getP g F s k) (x + 1) = numsF (getP g F s k) m := by
                rw [HSG.out, if_neg, List.append_nil]
                unfold getP
                rw [HX4.out, HW.out, HH.out, HK3.out, e3, decide_eq_false (by omega : ¬ ((C + 1 : Nat) : Int) ≤ s.cores)]
                simp
              have EG := Lib.hid eg
              clear eg
              have E3 := Lib.hid e3
              have E4 := Lib.hid e4
              have hled : decide ((C : Int) + 1 ≤ s.cores) = false := by simp; omega
              clear e3 e4 hle
              go_wp2_with fail
              refine (ri_has HIk.out HN2.out HH.out).mono ?_
              rintro e w4 ⟨rfl, hb⟩
              have BX4 := Lib.hid (BXk.out.next hb)
              have HONq := Lib.hid (HON.out.next ei_steady hb)
              have hg4 := (hb.cell (p := ⟨bb, off + x * 3, none⟩) hbg).trans hg0
              clear HON hb hcu hg0
              have HON := HONq
              clear HONq
              have q1 := BX4.out.c1
              have q2 := BX4.out.c2
              have q4 := BX4.out.c4
              rw [HW.out] at q4
              go_wp2
              go_roundw
              case rel => exact ⟨i + 1, x + 1, by omega, by omega, by go_num, by rw [E3.out]; go_num, by rw [E4.out], HX6.out, by rw [EG.out]; exact HON.out⟩
              case measure => simp [intOf]; omega
          · by_cases h4 : k3 = 4
            · subst h4
              have HNE3 : Hid ((4 : Int) ≠ 3) := Lib.hid (by decide)
              have e3 : frN g F 3 k (x + 1) = C := by rw [HS3.out, HC.out, if_neg (fun h => HNE3.out (by rw [← HK3.out]; exact h.2))]; rfl
              have e4 : frN g F 4 k (x + 1) = D + 1 := by rw [HS4.out, HD.out, if_pos ⟨HH.out, HK3.out⟩]
              by_cases hle : ((D + 1 : Nat) : Int) ≤ s.gpus
              · have eg : numsF (getP g F s k) (x + 1) = numsF (getP g F s k) m ++ [(x : Int)] := by
                  rw [HSG.out, if_pos]
                  unfold getP
                  rw [HX4.out, HW.out, HH.out, HK3.out, e4, decide_eq_true (by omega : ((D + 1 : Nat) : Int) ≤ s.gpus)]
                  simp
                have EG := Lib.hid eg
                clear eg
                have E3 := Lib.hid e3
                have E4 := Lib.hid e4
                have hlen : Hid ((numsF (getP g F s k) m).length ≤ 1000) := Lib.hid (by have := numsF_len (getP g F s k) m; omega)
                have hled : decide ((D : Int) + 1 ≤ s.gpus) = true := by simp; omega
                clear e3 e4 hle
                go_wp2_with fail
                refine (ri_has HIk.out HN2.out HH.out).mono ?_
                rintro e w4 ⟨rfl, hb⟩
                have BX4 := Lib.hid (BXk.out.next hb)
                have HONq := Lib.hid (HON.out.next ei_steady hb)
                have hg4 := (hb.cell (p := ⟨bb, off + x * 3, none⟩) hbg).trans hg0
                clear HON hb hcu hg0
                have HON := HONq
                clear HONq
                have q1 := BX4.out.c1
                have q2 := BX4.out.c2
                have q4 := BX4.out.c4
                rw [HW.out] at q4
                go_wp2_with (at_builtin; refine wpList_append_EI rfl (.tmp 100) (.tmp 102) 23 3 rfl HON.out i0 Tryz.underlying23 hi0 hz0 hz1 hz2 rfl _ rfl hlen.out ?_; intro v5 w5 hON5; refine Hid.out ?_)
                refine Lib.hid ?_
                clear HON
                have HON := Lib.hid hON5
                obtain ⟨bh, oh, eh, hbh, hh0, _⟩ := HR2.out.one hx2
                injection eh with eh
                injection eh with eh1 eh2
                subst eh1 eh2
                rw [HK3.out] at hh0
                have hg5 := (HON.out.below.cell (p := ⟨bb, off + x * 3, none⟩) hbh).trans hh0
                clear hON5 hg4 q1 q2 q4 hh0
                go_wp2
                go_roundw
                case rel => exact ⟨i + 1, x + 1, by omega, by omega, by go_num, by rw [E3.out], by rw [E4.out]; go_num, HX6.out, by rw [EG.out]; exact HON.out⟩
                case measure => simp [intOf]; omega
              · have eg : numsF (getP g F s k) (x + 1) = numsF (getP g F s k) m := by
                  rw [HSG.out, if_neg, List.append_nil]
                  unfold getP
                  rw [HX4.out, HW.out, HH.out, HK3.out, e4, decide_eq_false (by omega : ¬ ((D + 1 : Nat) : Int) ≤ s.gpus)]
                  simp
                have EG := Lib.hid eg
                clear eg
                have E3 := Lib.hid e3
                have E4 := Lib.hid e4
                have hled : decide ((D : Int) + 1 ≤ s.gpus) = false := by simp; omega
                clear e3 e4 hle
                go_wp2_with fail
                refine (ri_has HIk.out HN2.out HH.out).mono ?_
                rintro e w4 ⟨rfl, hb⟩
                have BX4 := Lib.hid (BXk.out.next hb)
                have HONq := Lib.hid (HON.out.next ei_steady hb)
                have hg4 := (hb.cell (p := ⟨bb, off + x * 3, none⟩) hbg).trans hg0
                clear HON hb hcu hg0
                have HON := HONq
                clear HONq
                have q1 := BX4.out.c1
                have q2 := BX4.out.c2
                have q4 := BX4.out.c4
                rw [HW.out] at q4
                go_wp2
                go_roundw
                case rel => exact ⟨i + 1, x + 1, by omega, by omega, by go_num, by rw [E3.out], by rw [E4.out]; go_num, HX6.out, by rw [EG.out]; exact HON.out⟩
                case measure => simp [intOf]; omega
            · have HNE3 := Lib.hid h3
              have HNE4 := Lib.hid h4
              have d3 : (k3 == 3) = false := by simpa using h3
              have d4 : (k3 == 4) = false := by simpa using h4
              clear h3 h4
              have e3 : frN g F 3 k (x + 1) = C := by rw [HS3.out, HC.out, if_neg (fun h => HNE3.out (by rw [← HK3.out]; exact h.2))]; rfl
              have e4 : frN g F 4 k (x + 1) = D := by rw [HS4.out, HD.out, if_neg (fun h => HNE4.out (by rw [← HK3.out]; exact h.2))]; rfl
              have eg : numsF (getP g F s k) (x + 1) = numsF (getP g F s k) m := by
                rw [HSG.out, if_neg, List.append_nil]
                unfold getP
                rw [HX4.out, HW.out, HH.out, HK3.out, d3, d4]
                simp
              have EG := Lib.hid eg
              clear eg
              have E3 := Lib.hid e3
              have E4 := Lib.hid e4
              clear e3 e4
              go_wp2_with fail
              refine (ri_has HIk.out HN2.out HH.out).mono ?_
              rintro e w4 ⟨rfl, hb⟩
              have BX4 := Lib.hid (BXk.out.next hb)
              have HONq := Lib.hid (HON.out.next ei_steady hb)
              have hg4 := (hb.cell (p := ⟨bb, off + x * 3, none⟩) hbg).trans hg0
              clear HON hb hcu hg0
              have HON := HONq
              clear HONq
              have q1 := BX4.out.c1
              have q2 := BX4.out.c2
              have q4 := BX4.out.c4
              rw [HW.out] at q4
              go_wp2
              go_roundw
              case rel => exact ⟨i + 1, x + 1, by omega, by omega, by go_num, by rw [E3.out], by rw [E4.out], HX6.out, by rw [EG.out]; exact HON.out⟩
              case measure => simp [intOf]; omega
      · have hkn : i = N3 := by omega
        have hnone := take_end (p := overG g k) (n := n) (m := m) (by rw [← HT.out, List.take_of_length_le (by rw [HN3.out]; omega)]) hm
        have e3 : frN g F 3 k g.length = C := by rw [HL.out, fr_gap hm hnone, HC.out]
        have e4 : frN g F 4 k g.length = D := by rw [HL.out, fr_gap hm hnone, HD.out]
        have hsu : suitP g F s k = decide (s.cores ≤ C ∧ s.gpus ≤ D) := by rw [suit_part HQ2.out HQF.out HQT.out HW.out, e3, e4]
        have hgl : numsF (getP g F s k) g.length = numsF (getP g F s k) m := by rw [HL.out]; exact get_gap hm hnone
        have HSU := Lib.hid hsu
        have HGL := Lib.hid hgl
        have q1 := BXk.out.c1
        have q2 := BXk.out.c2
        have q4 := BXk.out.c4
        rw [HW.out] at q4
        have HBE := Lib.hid (HB2.out.trans (HBk.out.mono HB2.out.size))
        clear hnone e3 e4 hsu hgl
        by_cases hc : (C : Int) < s.cores
        · have hcd : decide ((C : Int) < s.cores) = true := by simpa using hc
          have e0 : Hid (suitP g F s k = false) := Lib.hid (by rw [HSU.out, decide_eq_false (by omega)])
          clear hc
          go_wp2
          go_ret2
          rw [e0.out, getsL_no e0.out]
          exact ibpost_nil HBE.out
        · have hcd : decide ((C : Int) < s.cores) = false := by simpa using hc
          by_cases hd : (D : Int) < s.gpus
          · have hdd : decide ((D : Int) < s.gpus) = true := by simpa using hd
            have e0 : Hid (suitP g F s k = false) := Lib.hid (by rw [HSU.out, decide_eq_false (by omega)])
            clear hc hd
            go_wp2
            go_ret2
            rw [e0.out, getsL_no e0.out]
            exact ibpost_nil HBE.out
          · have hdd : decide ((D : Int) < s.gpus) = false := by simpa using hd
            have e0 : Hid (suitP g F s k = true) := Lib.hid (by rw [HSU.out, decide_eq_true ⟨by omega, by omega⟩])
            clear hc hd
            go_wp2
            obtain ⟨A9, c9, rfl, _, _⟩ := HON.out.form
            go_ret2
            rw [e0.out, getsL_yes e0.out, HGL.out]
            exact ibpost_on HON.out rfl HB2.out
  · obtain ⟨f1, f2, f3, f4⟩ := str_facts hts
    clear hts
    go_enter Tryz.func93, Tryz.ntmps93
    go_wp2
    rw [← hW]
    clear hW
    go_quiet ((go_at_call 77; exact Calls.quiet_of (HHAS.out _)))
    have HBd := Lib.hid (bel_drew W nq)
    generalize W.drewN nq = W1 at *
    go_wp2_with fail
    refine (refUnderG_any _ _ _ _ _ _ (HR.out.next HBd.out) HN.out).mono ?_
    rintro e w2 ⟨⟨A3, c3, rfl, hu, hz3, hcc3⟩, hb⟩
    rw [HUE.out, HN3.out] at hu hcc3 ⊢
    have HB2 := Lib.hid (HB.out.trans ((HBd.out.trans (hb.mono HBd.out.size)).mono HB.out.size))
    have HR2 := Lib.hid ((HR.out.next HBd.out).next hb)
    have HI2 := Lib.hid ((HI.out.next HBd.out).next hb)
    have BX2 := Lib.hid ((BX.out.next HBd.out).next hb)
    have HU2 := Lib.hid hu
    have HZ3 := Lib.hid hz3
    have HC3 := Lib.hid hcc3
    clear hu hz3 hcc3 hb HHAS hc0 hc1 hc2 p3 HR HI BX HB HBd
    go_wp2
    go_loopw [11, 12, 13, 14] (fun so sc sg si wr => ∃ i m : Nat, i ≤ N3 ∧ m ≤ n ∧ si = .int .i64 i ∧ sc = .int .i64 (frN g F 3 k m) ∧ sg = .int .i64 (frN g F 4 k m) ∧ (numsF (overG g k) n).take i = numsF (overG g k) m ∧ ON EI 1 3 w2 so (numsF (getP g F s k) m) wr ) (fun _ _ _ i _ => N3 - (intOf i).toNat)
    case atStart => exact ⟨0, 0, Nat.zero_le _, Nat.zero_le _, rfl, rfl, rfl, rfl, ON.nil _⟩
    case round =>
      obtain ⟨i, m, hi, hm, rfl, rfl, rfl, ht, hon⟩ := hrel
      have HON := Lib.hid hon
      have HT := Lib.hid ht

      have hCb : frN g F 3 k m ≤ 256 := Nat.le_trans (cntP_le _ _) (by omega)
      have hDb : frN g F 4 k m ≤ 256 := Nat.le_trans (cntP_le _ _) (by omega)
      obtain ⟨C, hC⟩ : ∃ C, frN g F 3 k m = C := ⟨_, rfl⟩
      obtain ⟨D, hD⟩ : ∃ D, frN g F 4 k m = D := ⟨_, rfl⟩
      rw [hC] at hCb
      rw [hD] at hDb
      rw [hC, hD]
      have HC := Lib.hid hC
      have HD := Lib.hid hD
      clear hon ht hC hD
      have HBk := Lib.hid HON.out.below
      have BXk := Lib.hid (BX2.out.next HBk.out)
      by_cases hlt : i < N3
      · obtain ⟨x, hx1, hx2, hx3, hx4, hx5, hx6⟩ := take_next (by rw [HN3.out]; exact hlt) HT.out hm
        have HX6 := Lib.hid hx6
        have HS3 := Lib.hid (fr_step (F := F) (c := 3) hx1 hx5 hx4)
        have HS4 := Lib.hid (fr_step (F := F) (c := 4) hx1 hx5 hx4)
        have HSG := Lib.hid (get_step (F := F) (s := s) hx1 hx5)
        have HX4 := Lib.hid hx4
        have HX5 := Lib.hid hx5
        obtain ⟨bu, ou, eu, hbu, hcu⟩ := (HU2.out.next HBk.out).one hlt
        rw [hx3] at hcu
        have HIk := Lib.hid (HI2.out.next HBk.out)
        have HRk := Lib.hid (HR2.out.next HBk.out)
        have HU := Lib.hid eu
        subst eu
        clear hx3 hx4 hx5 hx6
        have hxz : (x : Int) < (n : Int) := by omega
        cases hh : hasB F (x : Int) with
        | false =>
          have HH := Lib.hid hh
          clear hh
          go_wp2_with fail
          refine (ri_has HIk.out HN2.out HH.out).mono ?_
          rintro e w4 ⟨rfl, hb⟩
          have BX4 := Lib.hid (BXk.out.next hb)
          have HONq := Lib.hid (HON.out.next ei_steady hb)
          have HB4 := Lib.hid (HB2.out.trans ((HBk.out.trans (hb.mono HBk.out.size)).mono HB2.out.size))
          clear HON hb
          have HON := HONq
          clear HONq
          have q4 := BX4.out.c4
          rw [HW.out] at q4
          have e3 : frN g F 3 k (x + 1) = C := by rw [HS3.out, HC.out, if_neg (by rw [HH.out]; simp)]; rfl
          have e4 : frN g F 4 k (x + 1) = D := by rw [HS4.out, HD.out, if_neg (by rw [HH.out]; simp)]; rfl
          have eg : numsF (getP g F s k) (x + 1) = numsF (getP g F s k) m := by
            rw [HSG.out, if_neg, List.append_nil]
            unfold getP
            rw [HW.out, HH.out]; simp
          have E3 := Lib.hid e3
          have E4 := Lib.hid e4
          have EG := Lib.hid eg
          clear e3 e4 eg
          go_wp2
          go_roundw
          case rel => exact ⟨i + 1, x + 1, by omega, by omega, by go_num, by rw [E3.out], by rw [E4.out], HX6.out, by rw [EG.out]; exact HON.out⟩
          case measure => simp [intOf]; omega
        | true =>
          have HH := Lib.hid hh
          clear hh
          obtain ⟨k3, hk3⟩ : ∃ k3, gk g x = k3 := ⟨_, rfl⟩
          have HK3 := Lib.hid hk3
          obtain ⟨bg, og, eg', hbg, hg0, _⟩ := HRk.out.one hx2
          injection eg' with eg'
          injection eg' with eg1 eg2
          subst eg1 eg2
          rw [hk3] at hg0
          clear hk3
          by_cases h3 : k3 = 3
          · subst h3
            have HNE4 : Hid ((3 : Int) ≠ 4) := Lib.hid (by decide)
            have e3 : frN g F 3 k (x + 1) = C + 1 := by rw [HS3.out, HC.out, if_pos ⟨HH.out, HK3.out⟩]
            have e4 : frN g F 4 k (x + 1) = D := by rw [HS4.out, HD.out, if_neg (fun h => HNE4.out (by rw [← HK3.out]; exact h.2))]; rfl
            by_cases hle : ((C + 1 : Nat) : Int) ≤ s.cores
            · have eg : numsF (getP g F s k) (x + 1) = numsF (getP g F s k) m ++ [(x : Int)] := by
                rw [HSG.out, if_pos]
                unfold getP
                rw [HX4.out, HW.out, HH.out, HK3.out, e3, decide_eq_true (by omega : ((C + 1 : Nat) : Int) ≤ s.cores)]
                simp
              have EG := Lib.hid eg
              clear eg
              have E3 := Lib.hid e3
              have E4 := Lib.hid e4
              have hlen : Hid ((numsF (getP g F s k) m).length ≤ 1000) := Lib.hid (by have := numsF_len (getP g F s k) m; omega)
              have hled : decide ((C : Int) + 1 ≤ s.cores) = true := by simp; omega
              clear e3 e4 hle
              go_wp2_with fail
              refine (ri_has HIk.out HN2.out HH.out).mono ?_
              rintro e w4 ⟨rfl, hb⟩
              have BX4 := Lib.hid (BXk.out.next hb)
              have HONq := Lib.hid (HON.out.next ei_steady hb)
              have hg4 := (hb.cell (p := ⟨bb, off + x * 3, none⟩) hbg).trans hg0
              clear HON hb hcu hg0
              have HON := HONq
              clear HONq
              have q1 := BX4.out.c1
              have q2 := BX4.out.c2
              have q4 := BX4.out.c4
              rw [HW.out] at q4
              go_wp2_with (at_builtin; refine wpList_append_EI rfl (.tmp 79) (.tmp 81) 23 3 rfl HON.out i0 Tryz.underlying23 hi0 hz0 hz1 hz2 rfl _ rfl hlen.out ?_; intro v5 w5 hON5; refine Hid.out ?_)
              refine Lib.hid ?_
              clear HON
              have HON := Lib.hid hON5
              obtain ⟨bh, oh, eh, hbh, hh0, _⟩ := HR2.out.one hx2
              injection eh with eh
              injection eh with eh1 eh2
              subst eh1 eh2
              rw [HK3.out] at hh0
              have hg5 := (HON.out.below.cell (p := ⟨bb, off + x * 3, none⟩) hbh).trans hh0
              clear hON5 hg4 q1 q2 q4 hh0
              go_wp2
              go_roundw
              case rel => exact ⟨i + 1, x + 1, by omega, by omega, by go_num, by rw [E3.out]; go_num, by rw [E4.out], HX6.out, by rw [EG.out]; exact HON.out⟩
              case measure => simp [intOf]; omega
            · have eg : numsF (getP g F s k) (x + 1) = numsF (getP g F s k) m := by
                rw [HSG.out, if_neg, List.append_nil]
                unfold getP
                rw [HX4.out, HW.out, HH.out, HK3.out, e3, decide_eq_false (by omega : ¬ ((C + 1 : Nat) : Int) ≤ s.cores)]
                simp
              have EG := Lib.hid eg
              clear eg
              have E3 := Lib.hid e3
              have E4 := Lib.hid e4
              have hled : decide ((C : Int) + 1 ≤ s.cores) = false := by simp; omega
              clear e3 e4 hle
              go_wp2_with fail
              refine (ri_has HIk.out HN2.out HH.out).mono ?_
              rintro e w4 ⟨rfl, hb⟩
              have BX4 := Lib.hid (BXk.out.next hb)
              have HONq := Lib.hid (HON.out.next ei_steady hb)
              have hg4 := (hb.cell (p := ⟨bb, off + x * 3, none⟩) hbg).trans hg0
              clear HON hb hcu hg0
              have HON := HONq
              clear HONq
              have q1 := BX4.out.c1
              have q2 := BX4.out.c2
              have q4 := BX4.out.c4
              rw [HW.out] at q4
              go_wp2
              go_roundw
              case rel => exact ⟨i + 1, x + 1, by omega, by omega, by go_num, by rw [E3.out]; go_num, by rw [E4.out], HX6.out, by rw [EG.out]; exact HON.out⟩
              case measure => simp [intOf]; omega
          · by_cases h4 : k3 = 4
            · subst h4
              have HNE3 : Hid ((4 : Int) ≠ 3) := Lib.hid (by decide)
              have e3 : frN g F 3 k (x + 1) = C := by rw [HS3.out, HC.out, if_neg (fun h => HNE3.out (by rw [← HK3.out]; exact h.2))]; rfl
              have e4 : frN g F 4 k (x + 1) = D + 1 := by rw [HS4.out, HD.out, if_pos ⟨HH.out, HK3.out⟩]
              by_cases hle : ((D + 1 : Nat) : Int) ≤ s.gpus
              · have eg : numsF (getP g F s k) (x + 1) = numsF (getP g F s k) m ++ [(x : Int)] := by
                  rw [HSG.out, if_pos]
                  unfold getP
                  rw [HX4.out, HW.out, HH.out, HK3.out, e4, decide_eq_true (by omega : ((D + 1 : Nat) : Int) ≤ s.gpus)]
                  simp
                have EG := Lib.hid eg
                clear eg
                have E3 := Lib.hid e3
                have E4 := Lib.hid e4
                have hlen : Hid ((numsF (getP g F s k) m).length ≤ 1000) := Lib.hid (by have := numsF_len (getP g F s k) m; omega)
                have hled : decide ((D : Int) + 1 ≤ s.gpus) = true := by simp; omega
                clear e3 e4 hle
                go_wp2_with fail
                refine (ri_has HIk.out HN2.out HH.out).mono ?_
                rintro e w4 ⟨rfl, hb⟩
                have BX4 := Lib.hid (BXk.out.next hb)
                have HONq := Lib.hid (HON.out.next ei_steady hb)
                have hg4 := (hb.cell (p := ⟨bb, off + x * 3, none⟩) hbg).trans hg0
                clear HON hb hcu hg0
                have HON := HONq
                clear HONq
                have q1 := BX4.out.c1
                have q2 := BX4.out.c2
                have q4 := BX4.out.c4
                rw [HW.out] at q4
                go_wp2_with (at_builtin; refine wpList_append_EI rfl (.tmp 100) (.tmp 102) 23 3 rfl HON.out i0 Tryz.underlying23 hi0 hz0 hz1 hz2 rfl _ rfl hlen.out ?_; intro v5 w5 hON5; refine Hid.out ?_)
                refine Lib.hid ?_
                clear HON
                have HON := Lib.hid hON5
                obtain ⟨bh, oh, eh, hbh, hh0, _⟩ := HR2.out.one hx2
                injection eh with eh
                injection eh with eh1 eh2
                subst eh1 eh2
                rw [HK3.out] at hh0
                have hg5 := (HON.out.below.cell (p := ⟨bb, off + x * 3, none⟩) hbh).trans hh0
                clear hON5 hg4 q1 q2 q4 hh0
                go_wp2
                go_roundw
                case rel => exact ⟨i + 1, x + 1, by omega, by omega, by go_num, by rw [E3.out], by rw [E4.out]; go_num, HX6.out, by rw [EG.out]; exact HON.out⟩
                case measure => simp [intOf]; omega
              · have eg : numsF (getP g F s k) (x + 1) = numsF (getP g F s k) m := by
                  rw [HSG.out, if_neg, List.append_nil]
                  unfold getP
                  rw [HX4.out, HW.out, HH.out, HK3.out, e4, decide_eq_false (by omega : ¬ ((D + 1 : Nat) : Int) ≤ s.gpus)]
                  simp
                have EG := Lib.hid eg
                clear eg
                have E3 := Lib.hid e3
                have E4 := Lib.hid e4
                have hled : decide ((D : Int) + 1 ≤ s.gpus) = false := by simp; omega
                clear e3 e4 hle
                go_wp2_with fail
                refine (ri_has HIk.out HN2.out HH.out).mono ?_
                rintro e w4 ⟨rfl, hb⟩
                have BX4 := Lib.hid (BXk.out.next hb)
                have HONq := Lib.hid (HON.out.next ei_steady hb)
                have hg4 := (hb.cell (p := ⟨bb, off + x * 3, none⟩) hbg).trans hg0
                clear HON hb hcu hg0
                have HON := HONq
                clear HONq
                have q1 := BX4.out.c1
                have q2 := BX4.out.c2
                have q4 := BX4.out.c4
                rw [HW.out] at q4
                go_wp2
                go_roundw
                case rel => exact ⟨i + 1, x + 1, by omega, by omega, by go_num, by rw [E3.out], by rw [E4.out]; go_num, HX6.out, by rw [EG.out]; exact HON.out⟩
                case measure => simp [intOf]; omega
            · have HNE3 := Lib.hid h3
              have HNE4 := Lib.hid h4
              have d3 : (k3 == 3) = false := by simpa using h3
              have d4 : (k3 == 4) = false := by simpa using h4
              clear h3 h4
              have e3 : frN g F 3 k (x + 1) = C := by rw [HS3.out, HC.out, if_neg (fun h => HNE3.out (by rw [← HK3.out]; exact h.2))]; rfl
              have e4 : frN g F 4 k (x + 1) = D := by rw [HS4.out, HD.out, if_neg (fun h => HNE4.out (by rw [← HK3.out]; exact h.2))]; rfl
              have eg : numsF (getP g F s k) (x + 1) = numsF (getP g F s k) m := by
                rw [HSG.out, if_neg, List.append_nil]
                unfold getP
                rw [HX4.out, HW.out, HH.out, HK3.out, d3, d4]
                simp
              have EG := Lib.hid eg
              clear eg
              have E3 := Lib.hid e3
              have E4 := Lib.hid e4
              clear e3 e4
              go_wp2_with fail
              refine (ri_has HIk.out HN2.out HH.out).mono ?_
              rintro e w4 ⟨rfl, hb⟩
              have BX4 := Lib.hid (BXk.out.next hb)
              have HONq := Lib.hid (HON.out.next ei_steady hb)
              have hg4 := (hb.cell (p := ⟨bb, off + x * 3, none⟩) hbg).trans hg0
              clear HON hb hcu hg0
              have HON := HONq
              clear HONq
              have q1 := BX4.out.c1
              have q2 := BX4.out.c2
              have q4 := BX4.out.c4
              rw [HW.out] at q4
              go_wp2
              go_roundw
              case rel => exact ⟨i + 1, x + 1, by omega, by omega, by go_num, by rw [E3.out], by rw [E4.out], HX6.out, by rw [EG.out]; exact HON.out⟩
              case measure => simp [intOf]; omega
      · have hkn : i = N3 := by omega
        have hnone := take_end (p := overG g k) (n := n) (m := m) (by rw [← HT.out, List.take_of_length_le (by rw [HN3.out]; omega)]) hm
        have e3 : frN g F 3 k g.length = C := by rw [HL.out, fr_gap hm hnone, HC.out]
        have e4 : frN g F 4 k g.length = D := by rw [HL.out, fr_gap hm hnone, HD.out]
        have hsu : suitP g F s k = decide (s.cores ≤ C ∧ s.gpus ≤ D) := by rw [suit_part HQ2.out HQF.out HQT.out HW.out, e3, e4]
        have hgl : numsF (getP g F s k) g.length = numsF (getP g F s k) m := by rw [HL.out]; exact get_gap hm hnone
        have HSU := Lib.hid hsu
        have HGL := Lib.hid hgl
        have q1 := BXk.out.c1
        have q2 := BXk.out.c2
        have q4 := BXk.out.c4
        rw [HW.out] at q4
        have HBE := Lib.hid (HB2.out.trans (HBk.out.mono HB2.out.size))
        clear hnone e3 e4 hsu hgl
        by_cases hc : (C : Int) < s.cores
        · have hcd : decide ((C : Int) < s.cores) = true := by simpa using hc
          have e0 : Hid (suitP g F s k = false) := Lib.hid (by rw [HSU.out, decide_eq_false (by omega)])
          clear hc
          go_wp2
          go_ret2
          rw [e0.out, getsL_no e0.out]
          exact ibpost_nil HBE.out
        · have hcd : decide ((C : Int) < s.cores) = false := by simpa using hc
          by_cases hd : (D : Int) < s.gpus
          · have hdd : decide ((D : Int) < s.gpus) = true := by simpa using hd
            have e0 : Hid (suitP g F s k = false) := Lib.hid (by rw [HSU.out, decide_eq_false (by omega)])
            clear hc hd
            go_wp2
            go_ret2
            rw [e0.out, getsL_no e0.out]
            exact ibpost_nil HBE.out
          · have hdd : decide ((D : Int) < s.gpus) = false := by simpa using hd
            have e0 : Hid (suitP g F s k = true) := Lib.hid (by rw [HSU.out, decide_eq_true ⟨by omega, by omega⟩])
            clear hc hd
            go_wp2
            obtain ⟨A9, c9, rfl, _, _⟩ := HON.out.form
            go_ret2
            rw [e0.out, getsL_yes e0.out, HGL.out]
            exact ibpost_on HON.out rfl HB2.out

set_option maxRecDepth 100000 in
set_option maxHeartbeats 8000000 in
theorem refGets_w (A : Option Addr) (n c : Nat) (A2 : Option Addr) (n2 c2 : Nat) (g : Gr) (F : List Int) (s : Sp) (k : Nat) (w : World) (hr : RG w w.heap.size A n g) (hn : n ≤ maxLen) (hr2 : RI w w.heap.size A2 n2 F) (hn2 : n2 ≤ maxLen) (hs : SAsk s) (hg : rightG g = true) (hk : k < n) (hok : gk g k = 2 ∧ hasB F (k : Int) = true ∧ (s.tag.size = 0 ∨ s.tag = gt g k)) (hw : s.whole = true) :
    Calls Tryz.prog 93 #[.slice A n c, .slice A2 n2 c2, .agg #[.int .i64 s.nodes, .int .i64 s.cores, .int .i64 s.gpus, .string s.tag, .bool s.whole, .int .i64 s.long, .int .i64 s.prio], .int .i64 k] w (IBPost (getsL g F s k) (suitP g F s k) w) := by
  have HSN := Lib.hid hs
  obtain ⟨W, hW⟩ : ∃ W, W = w.alloc (spO s) := ⟨_, rfl⟩
  have BX : Hid (BoxS W w.heap.size s) := Lib.hid (by rw [hW]; exact box_new w s)
  have hb0 : Below w.heap.size w W := by rw [hW]; exact (Below.refl _ _).alloc (Nat.le_refl _) _
  have HB := Lib.hid hb0
  have HR := Lib.hid (hr.next hb0)
  have HI := Lib.hid (hr2.next hb0)
  have HN := Lib.hid hn
  have HN2 := Lib.hid hn2
  have HL := Lib.hid hr.len
  have HG := Lib.hid (rightG_is hg)
  have HG' := Lib.hid hg
  have hn256 : n ≤ 256 := by have := (rightG_is hg).few; have := hr.len; omega
  have hkz : (k : Int) < (n : Int) := by omega
  unfold spO at hW
  obtain ⟨hq2, hqf, hqt⟩ := hok
  have HQ2 := Lib.hid hq2
  have HQF := Lib.hid hqf
  have HQT := Lib.hid hqt
  have HW := Lib.hid hw
  obtain ⟨bb, off, rfl, hbb, hc0, hc1, hc2, _⟩ := HR.out.one hk
  obtain ⟨kk, hkk⟩ : ∃ kk, gk g k = kk := ⟨_, rfl⟩
  obtain ⟨tt, htt⟩ : ∃ tt, gt g k = tt := ⟨_, rfl⟩
  rw [hkk] at hc0
  rw [htt] at hc2
  rw [hkk] at hq2
  subst hq2
  rw [htt] at hqt
  have hf := hqf
  have HHAS : Hid (∀ q : Nat, Calls Tryz.prog 77 #[.slice A2 n2 c2, .int .i64 k] (W.drewN q) fun e w' => e = .returned (.bool true) ∧ ∃ m, w' = (W.drewN q).drewN m) := Lib.hid (fun q => (refHas_any A2 n2 c2 F k (W.drewN q) (HI.out.drewN q) HN2.out).mono fun _ _ ⟨h1, m, h2⟩ => ⟨by rw [h1, hf], m, h2⟩)
  have p3 := BX.out.c3
  have HUE : Hid (underL g (k : Int) = numsF (overG g k) n) := Lib.hid (by rw [underL_is hg (by rw [HL.out]; exact hk), HL.out])
  obtain ⟨N3, hN3⟩ : ∃ N3, (numsF (overG g k) n).length = N3 := ⟨_, rfl⟩
  have HN3 := Lib.hid hN3
  have hN3b : N3 ≤ 256 := by rw [← hN3]; exact Nat.le_trans (numsF_len _ _) hn256
  have hcase : (s.tag = ⟨#[]⟩) ∨ (s.tag.size ≠ 0 ∧ tt = s.tag) := by
    by_cases h0 : s.tag.size = 0
    · exact .inl (str_empty h0)
    · exact .inr ⟨h0, (hqt.resolve_left h0).symm⟩
  clear hr hr2 hs hg hb0 hn hn2 hqf hf hkk htt hqt hN3 hw
  rcases hcase with hte | ⟨hts, rfl⟩
  · rw [hte] at p3
    clear hte
    go_enter Tryz.func93, Tryz.ntmps93
    go_wp2
    rw [← hW]
    clear hW
    go_quiet ((go_at_call 77; exact Calls.quiet_of (HHAS.out _)))
    have HBd := Lib.hid (bel_drew W nq)
    generalize W.drewN nq = W1 at *
    go_wp2_with fail
    refine (refUnderG_any _ _ _ _ _ _ (HR.out.next HBd.out) HN.out).mono ?_
    rintro e w2 ⟨⟨A3, c3, rfl, hu, hz3, hcc3⟩, hb⟩
    rw [HUE.out, HN3.out] at hu hcc3 ⊢
    have HB2 := Lib.hid (HB.out.trans ((HBd.out.trans (hb.mono HBd.out.size)).mono HB.out.size))
    have HR2 := Lib.hid ((HR.out.next HBd.out).next hb)
    have HI2 := Lib.hid ((HI.out.next HBd.out).next hb)
    have BX2 := Lib.hid ((BX.out.next HBd.out).next hb)
    have HU2 := Lib.hid hu
    have HZ3 := Lib.hid hz3
    have HC3 := Lib.hid hcc3
    clear hu hz3 hcc3 hb HHAS hc0 hc1 hc2 p3 HR HI BX HB HBd
    go_wp2
    go_loopw [11, 12, 13, 14] (fun so sc sg si wr => ∃ i m : Nat, i ≤ N3 ∧ m ≤ n ∧ si = .int .i64 i ∧ sc = .int .i64 (frN g F 3 k m) ∧ sg = .int .i64 (frN g F 4 k m) ∧ (numsF (overG g k) n).take i = numsF (overG g k) m ∧ ON EI 1 3 w2 so [] wr ∧ (∀ y, y < m → overG g k y = true → hasB F (y : Int) = true)) (fun _ _ _ i _ => N3 - (intOf i).toNat)
    case atStart => exact ⟨0, 0, Nat.zero_le _, Nat.zero_le _, rfl, rfl, rfl, rfl, ON.nil _, fun y hy => absurd hy (by omega)⟩
    case round =>
      obtain ⟨i, m, hi, hm, rfl, rfl, rfl, ht, hon, hall⟩ := hrel
      have HON := Lib.hid hon
      have HT := Lib.hid ht
      have HALL := Lib.hid hall
      have hCb : frN g F 3 k m ≤ 256 := Nat.le_trans (cntP_le _ _) (by omega)
      have hDb : frN g F 4 k m ≤ 256 := Nat.le_trans (cntP_le _ _) (by omega)
      obtain ⟨C, hC⟩ : ∃ C, frN g F 3 k m = C := ⟨_, rfl⟩
      obtain ⟨D, hD⟩ : ∃ D, frN g F 4 k m = D := ⟨_, rfl⟩
      rw [hC] at hCb
      rw [hD] at hDb
      rw [hC, hD]
      have HC := Lib.hid hC
      have HD := Lib.hid hD
      clear hon ht hC hD hall
      have HBk := Lib.hid HON.out.below
      have BXk := Lib.hid (BX2.out.next HBk.out)
      by_cases hlt : i < N3
      · obtain ⟨x, hx1, hx2, hx3, hx4, hx5, hx6⟩ := take_next (by rw [HN3.out]; exact hlt) HT.out hm
        have HX6 := Lib.hid hx6
        have HS3 := Lib.hid (fr_step (F := F) (c := 3) hx1 hx5 hx4)
        have HS4 := Lib.hid (fr_step (F := F) (c := 4) hx1 hx5 hx4)
        have HSG := Lib.hid (get_step (F := F) (s := s) hx1 hx5)
        have HX4 := Lib.hid hx4
        have HX5 := Lib.hid hx5
        obtain ⟨bu, ou, eu, hbu, hcu⟩ := (HU2.out.next HBk.out).one hlt
        rw [hx3] at hcu
        have HIk := Lib.hid (HI2.out.next HBk.out)
        have HRk := Lib.hid (HR2.out.next HBk.out)
        have HU := Lib.hid eu
        subst eu
        clear hx3 hx4 hx5 hx6
        have hxz : (x : Int) < (n : Int) := by omega
        cases hh : hasB F (x : Int) with
        | false =>
          have HH := Lib.hid hh
          clear hh
          go_wp2_with fail
          refine (ri_has HIk.out HN2.out HH.out).mono ?_
          rintro e w4 ⟨rfl, hb⟩
          have BX4 := Lib.hid (BXk.out.next hb)
          have HONq := Lib.hid (HON.out.next ei_steady hb)
          have HB4 := Lib.hid (HB2.out.trans ((HBk.out.trans (hb.mono HBk.out.size)).mono HB2.out.size))
          clear HON hb
          have HON := HONq
          clear HONq
          have q4 := BX4.out.c4
          rw [HW.out] at q4
          have e0 : suitP g F s k = false := by
            rw [← Bool.not_eq_true, suitP_is]
            intro h'
            have := h'.2.2.2.2 HW.out x (by rw [HL.out]; exact hx2) HX4.out
            rw [HH.out] at this
            cases this
          have E0 := Lib.hid e0
          clear e0
          go_wp2
          go_ret2
          rw [E0.out, getsL_no E0.out]
          exact ibpost_nil HB4.out
        | true =>
          have HH := Lib.hid hh
          clear hh
          obtain ⟨k3, hk3⟩ : ∃ k3, gk g x = k3 := ⟨_, rfl⟩
          have HK3 := Lib.hid hk3
          obtain ⟨bg, og, eg', hbg, hg0, _⟩ := HRk.out.one hx2
          injection eg' with eg'
          injection eg' with eg1 eg2
          subst eg1 eg2
          rw [hk3] at hg0
          clear hk3
          by_cases h3 : k3 = 3
          · subst h3
            have HNE4 : Hid ((3 : Int) ≠ 4) := Lib.hid (by decide)
            have e3 : frN g F 3 k (x + 1) = C + 1 := by rw [HS3.out, HC.out, if_pos ⟨HH.out, HK3.out⟩]
            have e4 : frN g F 4 k (x + 1) = D := by rw [HS4.out, HD.out, if_neg (fun h => HNE4.out (by rw [← HK3.out]; exact h.2))]; rfl
            have e5 : ∀ y, y < x + 1 → overG g k y = true → hasB F (y : Int) = true := by
              intro y hy ho
              by_cases h1 : y < m
              · exact HALL.out y h1 ho
              · by_cases h2 : y = x
                · subst h2; exact HH.out
                · rw [HX5.out y (by omega) (by omega)] at ho; cases ho
            have E5 := Lib.hid e5
            clear e5
            have E3 := Lib.hid e3
            have E4 := Lib.hid e4
            clear e3 e4
            go_wp2_with fail
            refine (ri_has HIk.out HN2.out HH.out).mono ?_
            rintro e w4 ⟨rfl, hb⟩
            have BX4 := Lib.hid (BXk.out.next hb)
            have HONq := Lib.hid (HON.out.next ei_steady hb)
            have hg4 := (hb.cell (p := ⟨bb, off + x * 3, none⟩) hbg).trans hg0
            clear HON hb hcu hg0
            have HON := HONq
            clear HONq
            have q1 := BX4.out.c1
            have q2 := BX4.out.c2
            have q4 := BX4.out.c4
            rw [HW.out] at q4
            go_wp2
            go_roundw
            case rel => exact ⟨i + 1, x + 1, by omega, by omega, by go_num, by rw [E3.out]; go_num, by rw [E4.out], HX6.out, HON.out, E5.out⟩
            case measure => simp [intOf]; omega
          · by_cases h4 : k3 = 4
            · subst h4
              have HNE3 : Hid ((4 : Int) ≠ 3) := Lib.hid (by decide)
              have e3 : frN g F 3 k (x + 1) = C := by rw [HS3.out, HC.out, if_neg (fun h => HNE3.out (by rw [← HK3.out]; exact h.2))]; rfl
              have e4 : frN g F 4 k (x + 1) = D + 1 := by rw [HS4.out, HD.out, if_pos ⟨HH.out, HK3.out⟩]
              have e5 : ∀ y, y < x + 1 → overG g k y = true → hasB F (y : Int) = true := by
                intro y hy ho
                by_cases h1 : y < m
                · exact HALL.out y h1 ho
                · by_cases h2 : y = x
                  · subst h2; exact HH.out
                  · rw [HX5.out y (by omega) (by omega)] at ho; cases ho
              have E5 := Lib.hid e5
              clear e5
              have E3 := Lib.hid e3
              have E4 := Lib.hid e4
              clear e3 e4
              go_wp2_with fail
              refine (ri_has HIk.out HN2.out HH.out).mono ?_
              rintro e w4 ⟨rfl, hb⟩
              have BX4 := Lib.hid (BXk.out.next hb)
              have HONq := Lib.hid (HON.out.next ei_steady hb)
              have hg4 := (hb.cell (p := ⟨bb, off + x * 3, none⟩) hbg).trans hg0
              clear HON hb hcu hg0
              have HON := HONq
              clear HONq
              have q1 := BX4.out.c1
              have q2 := BX4.out.c2
              have q4 := BX4.out.c4
              rw [HW.out] at q4
              go_wp2
              go_roundw
              case rel => exact ⟨i + 1, x + 1, by omega, by omega, by go_num, by rw [E3.out], by rw [E4.out]; go_num, HX6.out, HON.out, E5.out⟩
              case measure => simp [intOf]; omega
            · have HNE3 := Lib.hid h3
              have HNE4 := Lib.hid h4
              have d3 : (k3 == 3) = false := by simpa using h3
              have d4 : (k3 == 4) = false := by simpa using h4
              clear h3 h4
              have e3 : frN g F 3 k (x + 1) = C := by rw [HS3.out, HC.out, if_neg (fun h => HNE3.out (by rw [← HK3.out]; exact h.2))]; rfl
              have e4 : frN g F 4 k (x + 1) = D := by rw [HS4.out, HD.out, if_neg (fun h => HNE4.out (by rw [← HK3.out]; exact h.2))]; rfl
              have e5 : ∀ y, y < x + 1 → overG g k y = true → hasB F (y : Int) = true := by
                intro y hy ho
                by_cases h1 : y < m
                · exact HALL.out y h1 ho
                · by_cases h2 : y = x
                  · subst h2; exact HH.out
                  · rw [HX5.out y (by omega) (by omega)] at ho; cases ho
              have E5 := Lib.hid e5
              clear e5
              have E3 := Lib.hid e3
              have E4 := Lib.hid e4
              clear e3 e4
              go_wp2_with fail
              refine (ri_has HIk.out HN2.out HH.out).mono ?_
              rintro e w4 ⟨rfl, hb⟩
              have BX4 := Lib.hid (BXk.out.next hb)
              have HONq := Lib.hid (HON.out.next ei_steady hb)
              have hg4 := (hb.cell (p := ⟨bb, off + x * 3, none⟩) hbg).trans hg0
              clear HON hb hcu hg0
              have HON := HONq
              clear HONq
              have q1 := BX4.out.c1
              have q2 := BX4.out.c2
              have q4 := BX4.out.c4
              rw [HW.out] at q4
              go_wp2
              go_roundw
              case rel => exact ⟨i + 1, x + 1, by omega, by omega, by go_num, by rw [E3.out], by rw [E4.out], HX6.out, HON.out, E5.out⟩
              case measure => simp [intOf]; omega
      · have hkn : i = N3 := by omega
        have hnone := take_end (p := overG g k) (n := n) (m := m) (by rw [← HT.out, List.take_of_length_le (by rw [HN3.out]; omega)]) hm
        have e3 : frN g F 3 k g.length = C := by rw [HL.out, fr_gap hm hnone, HC.out]
        have e4 : frN g F 4 k g.length = D := by rw [HL.out, fr_gap hm hnone, HD.out]
        have hall : ∀ x, x < g.length → overG g k x = true → hasB F (x : Int) = true := by
          intro x hx ho
          by_cases h1 : x < m
          · exact HALL.out x h1 ho
          · rw [hnone x (by omega) (by rw [← HL.out]; exact hx)] at ho; cases ho
        have hsu : suitP g F s k = decide (s.cores ≤ C ∧ s.gpus ≤ D) := by
          rw [Bool.eq_iff_iff, suitP_is, decide_eq_true_eq, e3, e4]
          exact ⟨fun h => h.2.2.2.1, fun h => ⟨HQ2.out, HQF.out, HQT.out, h, fun _ => hall⟩⟩
        have hgl : numsF (getP g F s k) g.length = numsF (overG g k) n := by
          rw [HL.out]
          refine numsF_ext fun x _ => ?_
          unfold getP
          rw [HW.out]; simp
        have HSU := Lib.hid hsu
        have HGL := Lib.hid hgl
        have q1 := BXk.out.c1
        have q2 := BXk.out.c2
        have q4 := BXk.out.c4
        rw [HW.out] at q4
        have HBE := Lib.hid (HB2.out.trans (HBk.out.mono HB2.out.size))
        clear hnone e3 e4 hsu hgl hall
        by_cases hc : (C : Int) < s.cores
        · have hcd : decide ((C : Int) < s.cores) = true := by simpa using hc
          have e0 : Hid (suitP g F s k = false) := Lib.hid (by rw [HSU.out, decide_eq_false (by omega)])
          clear hc
          go_wp2
          go_ret2
          rw [e0.out, getsL_no e0.out]
          exact ibpost_nil HBE.out
        · have hcd : decide ((C : Int) < s.cores) = false := by simpa using hc
          by_cases hd : (D : Int) < s.gpus
          · have hdd : decide ((D : Int) < s.gpus) = true := by simpa using hd
            have e0 : Hid (suitP g F s k = false) := Lib.hid (by rw [HSU.out, decide_eq_false (by omega)])
            clear hc hd
            go_wp2
            go_ret2
            rw [e0.out, getsL_no e0.out]
            exact ibpost_nil HBE.out
          · have hdd : decide ((D : Int) < s.gpus) = false := by simpa using hd
            have e0 : Hid (suitP g F s k = true) := Lib.hid (by rw [HSU.out, decide_eq_true ⟨by omega, by omega⟩])
            clear hc hd
            go_wp2
            have HUK := Lib.hid (HU2.out.next HBk.out)
            go_ret2
            rw [e0.out, getsL_yes e0.out, HGL.out]
            exact ibpost_mk HUK.out HZ3.out HC3.out HBE.out
  · obtain ⟨f1, f2, f3, f4⟩ := str_facts hts
    clear hts
    go_enter Tryz.func93, Tryz.ntmps93
    go_wp2
    rw [← hW]
    clear hW
    go_quiet ((go_at_call 77; exact Calls.quiet_of (HHAS.out _)))
    have HBd := Lib.hid (bel_drew W nq)
    generalize W.drewN nq = W1 at *
    go_wp2_with fail
    refine (refUnderG_any _ _ _ _ _ _ (HR.out.next HBd.out) HN.out).mono ?_
    rintro e w2 ⟨⟨A3, c3, rfl, hu, hz3, hcc3⟩, hb⟩
    rw [HUE.out, HN3.out] at hu hcc3 ⊢
    have HB2 := Lib.hid (HB.out.trans ((HBd.out.trans (hb.mono HBd.out.size)).mono HB.out.size))
    have HR2 := Lib.hid ((HR.out.next HBd.out).next hb)
    have HI2 := Lib.hid ((HI.out.next HBd.out).next hb)
    have BX2 := Lib.hid ((BX.out.next HBd.out).next hb)
    have HU2 := Lib.hid hu
    have HZ3 := Lib.hid hz3
    have HC3 := Lib.hid hcc3
    clear hu hz3 hcc3 hb HHAS hc0 hc1 hc2 p3 HR HI BX HB HBd
    go_wp2
    go_loopw [11, 12, 13, 14] (fun so sc sg si wr => ∃ i m : Nat, i ≤ N3 ∧ m ≤ n ∧ si = .int .i64 i ∧ sc = .int .i64 (frN g F 3 k m) ∧ sg = .int .i64 (frN g F 4 k m) ∧ (numsF (overG g k) n).take i = numsF (overG g k) m ∧ ON EI 1 3 w2 so [] wr ∧ (∀ y, y < m → overG g k y = true → hasB F (y : Int) = true)) (fun _ _ _ i _ => N3 - (intOf i).toNat)
    case atStart => exact ⟨0, 0, Nat.zero_le _, Nat.zero_le _, rfl, rfl, rfl, rfl, ON.nil _, fun y hy => absurd hy (by omega)⟩
    case round =>
      obtain ⟨i, m, hi, hm, rfl, rfl, rfl, ht, hon, hall⟩ := hrel
      have HON := Lib.hid hon
      have HT := Lib.hid ht
      have HALL := Lib.hid hall
      have hCb : frN g F 3 k m ≤ 256 := Nat.le_trans (cntP_le _ _) (by omega)
      have hDb : frN g F 4 k m ≤ 256 := Nat.le_trans (cntP_le _ _) (by omega)
      obtain ⟨C, hC⟩ : ∃ C, frN g F 3 k m = C := ⟨_, rfl⟩
      obtain ⟨D, hD⟩ : ∃ D, frN g F 4 k m = D := ⟨_, rfl⟩
      rw [hC] at hCb
      rw [hD] at hDb
      rw [hC, hD]
      have HC := Lib.hid hC
      have HD := Lib.hid hD
      clear hon ht hC hD hall
      have HBk := Lib.hid HON.out.below
      have BXk := Lib.hid (BX2.out.next HBk.out)
      by_cases hlt : i < N3
      · obtain ⟨x, hx1, hx2, hx3, hx4, hx5, hx6⟩ := take_next (by rw [HN3.out]; exact hlt) HT.out hm
        have HX6 := Lib.hid hx6
        have HS3 := Lib.hid (fr_step (F := F) (c := 3) hx1 hx5 hx4)
        have HS4 := Lib.hid (fr_step (F := F) (c := 4) hx1 hx5 hx4)
        have HSG := Lib.hid (get_step (F := F) (s := s) hx1 hx5)
        have HX4 := Lib.hid hx4
        have HX5 := Lib.hid hx5
        obtain ⟨bu, ou, eu, hbu, hcu⟩ := (HU2.out.next HBk.out).one hlt
        rw [hx3] at hcu
        have HIk := Lib.hid (HI2.out.next HBk.out)
        have HRk := Lib.hid (HR2.out.next HBk.out)
        have HU := Lib.hid eu
        subst eu
        clear hx3 hx4 hx5 hx6
        have hxz : (x : Int) < (n : Int) := by omega
        cases hh : hasB F (x : Int) with
        | false =>
          have HH := Lib.hid hh
          clear hh
          go_wp2_with fail
          refine (ri_has HIk.out HN2.out HH.out).mono ?_
          rintro e w4 ⟨rfl, hb⟩
          have BX4 := Lib.hid (BXk.out.next hb)
          have HONq := Lib.hid (HON.out.next ei_steady hb)
          have HB4 := Lib.hid (HB2.out.trans ((HBk.out.trans (hb.mono HBk.out.size)).mono HB2.out.size))
          clear HON hb
          have HON := HONq
          clear HONq
          have q4 := BX4.out.c4
          rw [HW.out] at q4
          have e0 : suitP g F s k = false := by
            rw [← Bool.not_eq_true, suitP_is]
            intro h'
            have := h'.2.2.2.2 HW.out x (by rw [HL.out]; exact hx2) HX4.out
            rw [HH.out] at this
            cases this
          have E0 := Lib.hid e0
          clear e0
          go_wp2
          go_ret2
          rw [E0.out, getsL_no E0.out]
          exact ibpost_nil HB4.out
        | true =>
          have HH := Lib.hid hh
          clear hh
          obtain ⟨k3, hk3⟩ : ∃ k3, gk g x = k3 := ⟨_, rfl⟩
          have HK3 := Lib.hid hk3
          obtain ⟨bg, og, eg', hbg, hg0, _⟩ := HRk.out.one hx2
          injection eg' with eg'
          injection eg' with eg1 eg2
          subst eg1 eg2
          rw [hk3] at hg0
          clear hk3
          by_cases h3 : k3 = 3
          · subst h3
            have HNE4 : Hid ((3 : Int) ≠ 4) := Lib.hid (by decide)
            have e3 : frN g F 3 k (x + 1) = C + 1 := by rw [HS3.out, HC.out, if_pos ⟨HH.out, HK3.out⟩]
            have e4 : frN g F 4 k (x + 1) = D := by rw [HS4.out, HD.out, if_neg (fun h => HNE4.out (by rw [← HK3.out]; exact h.2))]; rfl
            have e5 : ∀ y, y < x + 1 → overG g k y = true → hasB F (y : Int) = true := by
              intro y hy ho
              by_cases h1 : y < m
              · exact HALL.out y h1 ho
              · by_cases h2 : y = x
                · subst h2; exact HH.out
                · rw [HX5.out y (by omega) (by omega)] at ho; cases ho
            have E5 := Lib.hid e5
            clear e5
            have E3 := Lib.hid e3
            have E4 := Lib.hid e4
            clear e3 e4
            go_wp2_with fail
            refine (ri_has HIk.out HN2.out HH.out).mono ?_
            rintro e w4 ⟨rfl, hb⟩
            have BX4 := Lib.hid (BXk.out.next hb)
            have HONq := Lib.hid (HON.out.next ei_steady hb)
            have hg4 := (hb.cell (p := ⟨bb, off + x * 3, none⟩) hbg).trans hg0
            clear HON hb hcu hg0
            have HON := HONq
            clear HONq
            have q1 := BX4.out.c1
            have q2 := BX4.out.c2
            have q4 := BX4.out.c4
            rw [HW.out] at q4
            go_wp2
            go_roundw
            case rel => exact ⟨i + 1, x + 1, by omega, by omega, by go_num, by rw [E3.out]; go_num, by rw [E4.out], HX6.out, HON.out, E5.out⟩
            case measure => simp [intOf]; omega
          · by_cases h4 : k3 = 4
            · subst h4
              have HNE3 : Hid ((4 : Int) ≠ 3) := Lib.hid (by decide)
              have e3 : frN g F 3 k (x + 1) = C := by rw [HS3.out, HC.out, if_neg (fun h => HNE3.out (by rw [← HK3.out]; exact h.2))]; rfl
              have e4 : frN g F 4 k (x + 1) = D + 1 := by rw [HS4.out, HD.out, if_pos ⟨HH.out, HK3.out⟩]
              have e5 : ∀ y, y < x + 1 → overG g k y = true → hasB F (y : Int) = true := by
                intro y hy ho
                by_cases h1 : y < m
                · exact HALL.out y h1 ho
                · by_cases h2 : y = x
                  · subst h2; exact HH.out
                  · rw [HX5.out y (by omega) (by omega)] at ho; cases ho
              have E5 := Lib.hid e5
              clear e5
              have E3 := Lib.hid e3
              have E4 := Lib.hid e4
              clear e3 e4
              go_wp2_with fail
              refine (ri_has HIk.out HN2.out HH.out).mono ?_
              rintro e w4 ⟨rfl, hb⟩
              have BX4 := Lib.hid (BXk.out.next hb)
              have HONq := Lib.hid (HON.out.next ei_steady hb)
              have hg4 := (hb.cell (p := ⟨bb, off + x * 3, none⟩) hbg).trans hg0
              clear HON hb hcu hg0
              have HON := HONq
              clear HONq
              have q1 := BX4.out.c1
              have q2 := BX4.out.c2
              have q4 := BX4.out.c4
              rw [HW.out] at q4
              go_wp2
              go_roundw
              case rel => exact ⟨i + 1, x + 1, by omega, by omega, by go_num, by rw [E3.out], by rw [E4.out]; go_num, HX6.out, HON.out, E5.out⟩
              case measure => simp [intOf]; omega
            · have HNE3 := Lib.hid h3
              have HNE4 := Lib.hid h4
              have d3 : (k3 == 3) = false := by simpa using h3
              have d4 : (k3 == 4) = false := by simpa using h4
              clear h3 h4
              have e3 : frN g F 3 k (x + 1) = C := by rw [HS3.out, HC.out, if_neg (fun h => HNE3.out (by rw [← HK3.out]; exact h.2))]; rfl
              have e4 : frN g F 4 k (x + 1) = D := by rw [HS4.out, HD.out, if_neg (fun h => HNE4.out (by rw [← HK3.out]; exact h.2))]; rfl
              have e5 : ∀ y, y < x + 1 → overG g k y = true → hasB F (y : Int) = true := by
                intro y hy ho
                by_cases h1 : y < m
                · exact HALL.out y h1 ho
                · by_cases h2 : y = x
                  · subst h2; exact HH.out
                  · rw [HX5.out y (by omega) (by omega)] at ho; cases ho
              have E5 := Lib.hid e5
              clear e5
              have E3 := Lib.hid e3
              have E4 := Lib.hid e4
              clear e3 e4
              go_wp2_with fail
              refine (ri_has HIk.out HN2.out HH.out).mono ?_
              rintro e w4 ⟨rfl, hb⟩
              have BX4 := Lib.hid (BXk.out.next hb)
              have HONq := Lib.hid (HON.out.next ei_steady hb)
              have hg4 := (hb.cell (p := ⟨bb, off + x * 3, none⟩) hbg).trans hg0
              clear HON hb hcu hg0
              have HON := HONq
              clear HONq
              have q1 := BX4.out.c1
              have q2 := BX4.out.c2
              have q4 := BX4.out.c4
              rw [HW.out] at q4
              go_wp2
              go_roundw
              case rel => exact ⟨i + 1, x + 1, by omega, by omega, by go_num, by rw [E3.out], by rw [E4.out], HX6.out, HON.out, E5.out⟩
              case measure => simp [intOf]; omega
      · have hkn : i = N3 := by omega
        have hnone := take_end (p := overG g k) (n := n) (m := m) (by rw [← HT.out, List.take_of_length_le (by rw [HN3.out]; omega)]) hm
        have e3 : frN g F 3 k g.length = C := by rw [HL.out, fr_gap hm hnone, HC.out]
        have e4 : frN g F 4 k g.length = D := by rw [HL.out, fr_gap hm hnone, HD.out]
        have hall : ∀ x, x < g.length → overG g k x = true → hasB F (x : Int) = true := by
          intro x hx ho
          by_cases h1 : x < m
          · exact HALL.out x h1 ho
          · rw [hnone x (by omega) (by rw [← HL.out]; exact hx)] at ho; cases ho
        have hsu : suitP g F s k = decide (s.cores ≤ C ∧ s.gpus ≤ D) := by
          rw [Bool.eq_iff_iff, suitP_is, decide_eq_true_eq, e3, e4]
          exact ⟨fun h => h.2.2.2.1, fun h => ⟨HQ2.out, HQF.out, HQT.out, h, fun _ => hall⟩⟩
        have hgl : numsF (getP g F s k) g.length = numsF (overG g k) n := by
          rw [HL.out]
          refine numsF_ext fun x _ => ?_
          unfold getP
          rw [HW.out]; simp
        have HSU := Lib.hid hsu
        have HGL := Lib.hid hgl
        have q1 := BXk.out.c1
        have q2 := BXk.out.c2
        have q4 := BXk.out.c4
        rw [HW.out] at q4
        have HBE := Lib.hid (HB2.out.trans (HBk.out.mono HB2.out.size))
        clear hnone e3 e4 hsu hgl hall
        by_cases hc : (C : Int) < s.cores
        · have hcd : decide ((C : Int) < s.cores) = true := by simpa using hc
          have e0 : Hid (suitP g F s k = false) := Lib.hid (by rw [HSU.out, decide_eq_false (by omega)])
          clear hc
          go_wp2
          go_ret2
          rw [e0.out, getsL_no e0.out]
          exact ibpost_nil HBE.out
        · have hcd : decide ((C : Int) < s.cores) = false := by simpa using hc
          by_cases hd : (D : Int) < s.gpus
          · have hdd : decide ((D : Int) < s.gpus) = true := by simpa using hd
            have e0 : Hid (suitP g F s k = false) := Lib.hid (by rw [HSU.out, decide_eq_false (by omega)])
            clear hc hd
            go_wp2
            go_ret2
            rw [e0.out, getsL_no e0.out]
            exact ibpost_nil HBE.out
          · have hdd : decide ((D : Int) < s.gpus) = false := by simpa using hd
            have e0 : Hid (suitP g F s k = true) := Lib.hid (by rw [HSU.out, decide_eq_true ⟨by omega, by omega⟩])
            clear hc hd
            go_wp2
            have HUK := Lib.hid (HU2.out.next HBk.out)
            go_ret2
            rw [e0.out, getsL_yes e0.out, HGL.out]
            exact ibpost_mk HUK.out HZ3.out HC3.out HBE.out

theorem refGets_any (A : Option Addr) (n c : Nat) (A2 : Option Addr) (n2 c2 : Nat) (g : Gr) (F : List Int) (s : Sp) (k : Nat) (w : World) (hr : RG w w.heap.size A n g) (hn : n ≤ maxLen) (hr2 : RI w w.heap.size A2 n2 F) (hn2 : n2 ≤ maxLen) (hs : SAsk s) (hg : rightG g = true) (hk : k < n) :
    Calls Tryz.prog 93 #[.slice A n c, .slice A2 n2 c2, .agg #[.int .i64 s.nodes, .int .i64 s.cores, .int .i64 s.gpus, .string s.tag, .bool s.whole, .int .i64 s.long, .int .i64 s.prio], .int .i64 k] w (IBPost (getsL g F s k) (suitP g F s k) w) := by
  by_cases h2 : gk g k = 2
  · by_cases hf : hasB F (k : Int) = true
    · by_cases ht : s.tag.size = 0 ∨ s.tag = gt g k
      · by_cases hw : s.whole = true
        · exact refGets_w A n c A2 n2 c2 g F s k w hr hn hr2 hn2 hs hg hk ⟨h2, hf, ht⟩ hw
        · exact refGets_p A n c A2 n2 c2 g F s k w hr hn hr2 hn2 hs hg hk ⟨h2, hf, ht⟩ (Bool.eq_false_iff.2 hw)
      · exact refGets_no A n c A2 n2 c2 g F s k w hr hn hr2 hn2 hs hg hk (.inr (.inr ⟨h2, hf, fun h => ht (.inl h), fun h => ht (.inr h)⟩))
    · exact refGets_no A n c A2 n2 c2 g F s k w hr hn hr2 hn2 hs hg hk (.inr (.inl ⟨h2, Bool.eq_false_iff.2 hf⟩))
  · exact refGets_no A n c A2 n2 c2 g F s k w hr hn hr2 hn2 hs hg hk (.inl h2)

end Go.Proofs.YtchogijdkagiiaaGreatDoor
