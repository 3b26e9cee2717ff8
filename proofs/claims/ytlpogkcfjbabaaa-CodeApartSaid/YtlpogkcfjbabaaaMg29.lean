/- The reference's Short, Same, List of layer 8 (bailiwickref08): what they answer of any parts. -/
import Derived.Deep.QuietTactic
import Derived.BigQuiet
import Derived.Test.YtlpogkcfjbabaaaMg27
import Derived.Test.YtlpogkcfjbabaaaMg28
import Derived.Test.YtlpogkcfjbabaaaMg03
namespace Go.Proofs.Ytlpogkcfjbabaaa
open Go.RowKit

def shortB (ps : List Bs) : Bool := decide (ps.length ≤ 60 ∧ ∀ p ∈ ps, p.length ≤ 300)
theorem short_no {ps : List Bs} {k : Nat} (hk : k < ps.length) (h : 300 < (ps.getD k []).length) : shortB ps = false := by
  unfold shortB
  rw [decide_eq_false_iff_not]
  intro hs
  rw [List.getD, List.getElem?_eq_getElem hk] at h
  have := hs.2 ps[k] (List.getElem_mem hk)
  simp at h
  omega
theorem all_getD {ps : List Bs} {P : Bs → Prop} (h : ∀ j, j < ps.length → P (ps.getD j [])) : ∀ p ∈ ps, P p := by
  intro p hp
  obtain ⟨k, hk, rfl⟩ := List.getElem_of_mem hp
  have := h k hk
  rwa [List.getD, List.getElem?_eq_getElem hk] at this

set_option maxRecDepth 100000 in
set_option maxHeartbeats 2000000 in
theorem refShort_any (A : Option Addr) (n c : Nat) (ps : List Bs) (w : World) (h : PAsk w A n c ps) :
    Calls Try.prog 8 #[.slice A n c] w fun e w' => e = .returned (.bool (shortB ps)) ∧ Below w.heap.size w w' := by
  have H := Lib.hid h
  have HL := Lib.hid h.reads.len
  have hn := h.few
  unfold maxLen at hn
  clear h
  by_cases hbig : 60 < n
  · have hd : decide ((60 : Int) < (n : Int)) = true := by simp; omega
    have e0 : Hid (shortB ps = false) := Lib.hid (by unfold shortB; rw [decide_eq_false_iff_not, HL.out]; omega)
    clear hbig
    go_enter Try.func8, Try.ntmps8
    go_wp2
    go_ret
    exact ⟨ret_bool e0.out, Below.refl _ _⟩
  · have hd : decide ((60 : Int) < (n : Int)) = false := by simp; omega
    go_enter Try.func8, Try.ntmps8
    go_wp2
    go_loop [3] (fun i => ∃ k : Nat, k ≤ n ∧ i = .int .i64 k ∧ ∀ j, j < k → (ps.getD j []).length ≤ 300) (fun i => n - (intOf i).toNat)
    case atStart => exact ⟨0, Nat.zero_le _, rfl, fun j hj => absurd hj (by omega)⟩
    case round =>
      obtain ⟨k, hk, rfl, hpre⟩ := hrel
      have HP := Lib.hid hpre
      clear hpre
      by_cases hlt : k < n
      · obtain ⟨b, off, A', m, c', rfl, _, hc, hb⟩ := H.out.one hlt
        have hbl := hb.reads.len
        have HBL := Lib.hid hbl
        clear hb hbl
        by_cases h3 : 300 < m
        · have e0 : Hid (shortB ps = false) := Lib.hid (short_no (k := k) (by rw [HL.out]; exact hlt) (by rw [HBL.out]; exact h3))
          have h3d : decide ((300 : Int) < (m : Int)) = true := by simp; omega
          clear h3
          go_wp2
          go_ret
          exact ⟨ret_bool e0.out, Below.refl _ _⟩
        · have h3d : decide ((300 : Int) < (m : Int)) = false := by simp; omega
          have e1 : Hid (∀ j, j < k + 1 → (ps.getD j []).length ≤ 300) := Lib.hid (by
            intro j hj
            rcases Nat.lt_or_ge j k with h' | h'
            · exact HP.out j h'
            · obtain rfl : j = k := by omega
              rw [HBL.out]; omega)
          clear h3
          go_wp2
          go_round
          case rel => exact ⟨k + 1, by omega, by go_num, e1.out⟩
          case measure => simp [intOf]; omega
      · have hkn : k = n := by omega
        have e0 : Hid (shortB ps = true) := Lib.hid (by
          unfold shortB
          rw [decide_eq_true_eq]
          exact ⟨by rw [HL.out]; omega, all_getD (P := fun p => p.length ≤ 300) (fun j hj => HP.out j (by rw [HL.out] at hj; omega))⟩)
        clear HP
        go_wp2
        go_ret
        exact ⟨ret_bool e0.out, Below.refl _ _⟩

theorem refReadSpec_some (A : Option Addr) (n c : Nat) (bs : Bs) (B : Nat) (w : World) (h : BAsk w B A n c bs) (hB : B ≤ w.heap.size) :
    Calls Try.prog 31 #[.slice A n c] w fun e w' => (∃ (x0 x1 x2 : Int) (x3 : ByteArray) (x4 : Bool) (x5 x6 : Int), e = .returned (.tuple #[.agg #[.int .i64 x0, .int .i64 x1, .int .i64 x2, .string x3, .bool x4, .int .i64 x5, .int .i64 x6], .int .i64 (spReadS bs).2])) ∧ Below w.heap.size w w' :=
  (refReadSpec_any A n c bs B w h hB).mono fun _ _ ⟨h1, h2⟩ => ⟨⟨_, _, _, _, _, _, _, h1⟩, h2⟩
theorem flatten_take {ps : List Bs} {k : Nat} (hk : k < ps.length) : (ps.take (k + 1)).flatten = (ps.take k).flatten ++ ps.getD k [] := by
  rw [List.take_succ_eq_append_getElem hk, List.flatten_append, List.getD, List.getElem?_eq_getElem hk]
  simp
theorem flatten_len {ps : List Bs} (k : Nat) : (ps.take k).flatten.length ≤ ps.flatten.length := by
  have h := congrArg List.length (congrArg List.flatten (List.take_append_drop k ps))
  rw [List.flatten_append, List.length_append] at h
  omega
theorem ptList_no {ps : List Bs} {k : Nat} (hl : ¬ 1000 < ps.length) (hk : k < ps.length) (h : partOk (ps.getD k []) = false) : ptList ps = ([], 3) := by
  unfold ptList
  rw [if_neg hl, if_neg]
  intro ha
  rw [List.all_eq_true] at ha
  have := ha ps[k] (List.getElem_mem hk)
  rw [List.getD, List.getElem?_eq_getElem hk] at h
  simp at h
  rw [h] at this
  cases this
theorem ptList_yes {ps : List Bs} (hl : ¬ 1000 < ps.length) (h : ∀ j, j < ps.length → partOk (ps.getD j []) = true) : ptList ps = (listB ps, 0) := by
  unfold ptList
  rw [if_neg hl, if_pos]
  rw [List.all_eq_true]
  exact all_getD (P := fun p => partOk p = true) h
theorem partOk_is {p : Bs} {E1 E2 : Int} (h1 : (spReadS p).2 = E1) (h2 : (rdSet p).2 = E2) : partOk p = decide (E1 = 0 ∨ E2 = 0) := by unfold partOk; rw [h1, h2]

set_option maxRecDepth 100000 in
set_option maxHeartbeats 8000000 in
theorem refList_any (A : Option Addr) (n c : Nat) (ps : List Bs) (w : World) (h : PAsk w A n c ps) (hsum : ps.flatten.length ≤ 100000) :
    Calls Try.prog 14 #[.slice A n c] w (BPost (ptList ps).1 (ptList ps).2 w) := by
  obtain ⟨i0, hi0, hz0, hz1, hz2⟩ := info_parts byte_info
  have H := Lib.hid h
  have HL := Lib.hid h.reads.len
  have hn := h.few
  have HSUM := Lib.hid hsum
  unfold maxLen at hn
  clear h hsum
  by_cases hbig : 1000 < n
  · have e0 : ptList ps = ([], 4) := by unfold ptList; rw [if_pos (by rw [HL.out]; exact hbig)]
    have hd : decide ((1000 : Int) < (n : Int)) = true := by simp; omega
    rw [e0]
    clear hbig e0
    go_enter Try.func14, Try.ntmps14
    go_wp2
    go_ret2
    exact bpost_nil (Below.refl _ _)
  · have hd : decide ((1000 : Int) < (n : Int)) = false := by simp; omega
    have hn1 : n ≤ 1000 := by omega
    have HBIG : Hid (¬ 1000 < ps.length) := Lib.hid (by rw [HL.out]; exact hbig)
    have L1 := Lib.hid (numB_len (n := n) (by omega))
    have HO1 : Hid (ON EB 1 5 w (.slice (some ⟨w.heap.size, 0, none⟩) 1 1) [3] (w.alloc (.cells #[.int .u8 3] 5))) := Lib.hid (onb_one (t := 5) w 3 (by omega))
    obtain ⟨R, hR⟩ : ∃ R, ptList ps = R := ⟨_, rfl⟩
    have HR := Lib.hid hR
    rw [hR]
    clear hbig hR
    go_enter Try.func14, Try.ntmps14
    go_wp2_with fail
    refine (refNum_any n _ (by omega)).mono ?_
    rintro e u1 ⟨v1, rfl, hv⟩
    obtain ⟨A1, a1, rfl, hnil1, hcap1⟩ := hv.form
    have HV1 := Lib.hid (hv.reads eb_steady (by omega) rfl)
    have HP1 := Lib.hid (HO1.out.next eb_steady hv.below)
    clear hv
    go_wp2_with (at_builtin; refine wpList_append_RB rfl (.tmp 13) (.tmp 17) 28 5 rfl HP1.out i0 Try.underlying28 hi0 hz0 hz1 hz2 rfl _ A1 _ a1 rfl HV1.out hnil1 (by have := L1.out; simp only [List.length_cons, List.length_nil]; omega) ?_; intro o2 y2 hON; refine Hid.out ?_)
    refine Lib.hid ?_
    have HO2 : Hid (ON EB 1 5 w o2 (3 :: (numB n ++ (ps.take 0).flatten)) y2) := Lib.hid (by have := hON; simpa using this)
    clear hON
    go_wp2
    go_loopw [4, 5] (fun so si wr => ∃ k : Nat, k ≤ n ∧ si = .int .i64 k ∧ ON EB 1 5 w so (3 :: (numB n ++ (ps.take k).flatten)) wr ∧ ∀ j, j < k → partOk (ps.getD j []) = true) (fun _ i _ => n - (intOf i).toNat)
    case atStart => exact ⟨0, Nat.zero_le _, rfl, HO2.out, fun j hj => absurd hj (by omega)⟩
    case round =>
      obtain ⟨k, hk, rfl, hon, hpre⟩ := hrel
      have HP := Lib.hid hpre
      have HON := Lib.hid hon
      clear hpre hon
      by_cases hlt : k < n
      · have HK := Lib.hid (H.out.next HON.out.below)
        obtain ⟨b, off, A', m, c', rfl, hbw, hc, hp⟩ := HK.out.one hlt
        have HPB := Lib.hid hp
        have hkl : k < ps.length := by rw [HL.out]; exact hlt
        obtain ⟨p, hpe⟩ : ∃ p, ps.getD k [] = p := ⟨_, rfl⟩
        have HPE := Lib.hid hpe
        have HTK := Lib.hid (flatten_take hkl)
        rw [hpe] at HPB HTK
        have hpl := HPB.out.reads.len
        have HLEN : Hid ((3 :: (numB n ++ (ps.take k).flatten)).length + m ≤ 1000000) := Lib.hid (by
          have h1 := flatten_len (ps := ps) (k + 1)
          rw [HTK.out, List.length_append, hpl] at h1
          have := HSUM.out
          have := L1.out
          simp only [List.length_cons, List.length_append]
          omega)
        obtain ⟨E1, hE1⟩ : ∃ E1, (spReadS p).2 = E1 := ⟨_, rfl⟩
        obtain ⟨E2, hE2⟩ : ∃ E2, (rdSet p).2 = E2 := ⟨_, rfl⟩
        have hpo := partOk_is hE1 hE2
        have C1 : Hid (Calls Try.prog 31 #[.slice A' m c'] wr fun e w' => (∃ (x0 x1 x2 : Int) (x3 : ByteArray) (x4 : Bool) (x5 x6 : Int), e = .returned (.tuple #[.agg #[.int .i64 x0, .int .i64 x1, .int .i64 x2, .string x3, .bool x4, .int .i64 x5, .int .i64 x6], .int .i64 E1])) ∧ Below wr.heap.size wr w') := Lib.hid (by
          have := refReadSpec_some A' m c' p _ wr HPB.out (Nat.le_refl _)
          rw [hE1] at this
          exact this)
        have C2 : Hid (∀ wx, Below wr.heap.size wr wx → Calls Try.prog 32 #[.slice A' m c'] wx fun e w' => (∃ A3 n3 c3, e = .returned (.tuple #[.slice A3 n3 c3, .int .i64 E2])) ∧ Below wx.heap.size wx w') := Lib.hid (fun wx hb => by
          have := refReadSet_any A' m c' p _ wx (HPB.out.next hb) (Nat.le_refl _)
          rw [hE2] at this
          exact this.mono fun _ _ ⟨⟨A3, c3, h1, _⟩, h2⟩ => ⟨⟨A3, _, c3, h1⟩, h2⟩)
        have hcall : Hid (∀ wx, Below wr.heap.size wr wx → wx.cell? ⟨b, off + k, none⟩ = some (.slice A' m c')) := Lib.hid (fun wx hb => (hb.cell (p := ⟨b, off + k, none⟩) hbw).trans hc)
        clear hpe hE1 hE2 hp hkl hpl
        by_cases hgood : E1 = 0 ∨ E2 = 0
        · have e1 : Hid (∀ j, j < k + 1 → partOk (ps.getD j []) = true) := Lib.hid (by
            intro j hj
            rcases Nat.lt_or_ge j k with h' | h'
            · exact HP.out j h'
            · obtain rfl : j = k := by omega
              rw [HPE.out, hpo]; exact decide_eq_true hgood)
          clear hpo
          have hway : E1 = 0 ∨ ((E1 != 0) = true ∧ E2 = 0) := by
            by_cases h1 : E1 = 0
            · exact .inl h1
            · exact .inr ⟨by simpa using h1, hgood.resolve_left h1⟩
          clear hgood
          rcases hway with rfl | ⟨hw, rfl⟩
          all_goals
            go_wp2_with fail
            refine C1.out.mono ?_
            rintro e u2 ⟨⟨x0, x1, x2, x3, x4, x5, x6, rfl⟩, hb2⟩
            have B2 : Hid (Below wr.heap.size wr (u2.alloc (.cells #[.int .i64 x0, .int .i64 x1, .int .i64 x2, .string x3, .bool x4, .int .i64 x5, .int .i64 x6] 23))) := Lib.hid (hb2.alloc hb2.size _)
            have hc2 := hcall.out _ B2.out
            clear hb2
            go_wp2_with fail
            refine (C2.out _ B2.out).mono ?_
            rintro e u3 ⟨⟨A3, n3, c3, rfl⟩, hb3⟩
            have B3 := Lib.hid (B2.out.trans (hb3.mono B2.out.size))
            have hc3 := hcall.out _ B3.out
            have HON3 := Lib.hid (HON.out.next eb_steady B3.out)
            have HP3 := Lib.hid (HPB.out.next B3.out)
            clear hb3 hc2 hc
            go_wp2_with (at_builtin; refine wpList_append_RB rfl (.tmp 47) (.tmp 51) 28 5 rfl HON3.out i0 Try.underlying28 hi0 hz0 hz1 hz2 rfl _ A' m c' rfl HP3.out.reads HP3.out.nil HLEN.out ?_; intro o4 y4 hON; refine Hid.out ?_)
            refine Lib.hid ?_
            have HO4 : Hid (ON EB 1 5 w o4 (3 :: (numB n ++ (ps.take (k + 1)).flatten)) y4) := Lib.hid (by have := hON; rw [HTK.out]; simpa using this)
            clear hON hc3
            go_wp2
            go_roundw
            case rel => exact ⟨k + 1, by omega, by go_num, HO4.out, e1.out⟩
            case measure => simp [intOf]; omega
        · have e0 : Hid (R = ([], 3)) := Lib.hid (by rw [← HR.out]; exact ptList_no HBIG.out (k := k) (by rw [HL.out]; exact hlt) (by rw [HPE.out, hpo]; exact decide_eq_false hgood))
          have hw1 : (E1 != 0) = true := by simp; exact fun e => hgood (.inl e)
          have hw2 : (E2 != 0) = true := by simp; exact fun e => hgood (.inr e)
          clear hpo hgood
          go_wp2_with fail
          refine C1.out.mono ?_
          rintro e u2 ⟨⟨x0, x1, x2, x3, x4, x5, x6, rfl⟩, hb2⟩
          have B2 : Hid (Below wr.heap.size wr (u2.alloc (.cells #[.int .i64 x0, .int .i64 x1, .int .i64 x2, .string x3, .bool x4, .int .i64 x5, .int .i64 x6] 23))) := Lib.hid (hb2.alloc hb2.size _)
          have hc2 := hcall.out _ B2.out
          clear hb2
          go_wp2_with fail
          refine (C2.out _ B2.out).mono ?_
          rintro e u3 ⟨⟨A3, n3, c3, rfl⟩, hb3⟩
          have B3 := Lib.hid (HON.out.below.trans ((B2.out.trans (hb3.mono B2.out.size)).mono HON.out.below.size))
          clear hb3 hc2 hc
          go_wp2
          go_ret2
          rw [e0.out]
          exact bpost_nil B3.out
      · have hkn : k = n := by omega
        subst hkn
        have e0 : Hid (R = (3 :: (numB k ++ (ps.take k).flatten), 0)) := Lib.hid (by
          rw [← HR.out, ptList_yes HBIG.out (fun j hj => HP.out j (by rw [HL.out] at hj; exact hj))]
          unfold listB
          rw [HL.out, List.take_of_length_le (by rw [HL.out]; exact Nat.le_refl _)])
        clear HP
        go_wp2
        obtain ⟨A9, c9, rfl, _, _⟩ := HON.out.form
        go_ret2
        rw [e0.out]
        exact bpost_own HON.out

end Go.Proofs.Ytlpogkcfjbabaaa
