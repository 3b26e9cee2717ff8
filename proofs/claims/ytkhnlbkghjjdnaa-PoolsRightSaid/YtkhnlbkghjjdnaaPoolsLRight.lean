/- The statement PoolsRight, as a walk over the contracts: of any pools, span and amounts the call returns true. -/
import Derived.Test.YtkhnlbkghjjdnaaPoolsAwake
import Derived.Test.YtkhnlbkghjjdnaaPoolsLaws
namespace Go.Proofs.Ytkhnlbkghjjdnaa
open Go.RowKit

set_option maxRecDepth 100000 in
set_option maxHeartbeats 4000000 in
theorem poolsRight_far (H : PoolsOk) (A : Option Addr) (n c : Nat) (A2 : Option Addr) (n2 c2 : Nat) (ls : List (List (Int × Int))) (a b : Int) (w : World) (hr : RSS w w.heap.size A n ls) (hn : n ≤ maxLen) (hn2 : n2 ≤ maxLen) (hf : shortB ls = false ∨ 10 < n2) :
    Calls Try.prog 3 #[.slice A n c, .int .i64 a, .int .i64 b, .slice A2 n2 c2] w fun e w' => e = .returned (.bool true) ∧ Below w.heap.size w w' := by
  have HR := Lib.hid hr
  have HN := Lib.hid hn
  unfold maxLen at hn2
  cases hs : shortB ls with
  | false =>
    have HS := Lib.hid hs
    clear hs hf hr hn
    go_enter Try.func3, Try.ntmps3
    go_wp2_with fail
    refine (poolsAwake_any H _).mono ?_
    rintro e w1 ⟨rfl, hb1⟩
    have HB1 := Lib.hid hb1
    clear hb1
    go_wp2_with fail
    refine (calls_bool (short_any _ _ _ ls _ (HR.out.next HB1.out) HN.out) HS.out).mono ?_
    rintro e w2 ⟨rfl, hb2⟩
    have HB2 := Lib.hid (HB1.out.trans (hb2.mono HB1.out.size))
    clear hb2
    go_wp2
    go_ret
    exact ⟨rfl, HB2.out⟩
  | true =>
    have HS := Lib.hid hs
    have h10 : 10 < n2 := by rcases hf with h | h; (rw [h] at hs; cases hs); exact h
    clear hs hf hr hn
    go_enter Try.func3, Try.ntmps3
    go_wp2_with fail
    refine (poolsAwake_any H _).mono ?_
    rintro e w1 ⟨rfl, hb1⟩
    have HB1 := Lib.hid hb1
    clear hb1
    go_wp2_with fail
    refine (calls_bool (short_any _ _ _ ls _ (HR.out.next HB1.out) HN.out) HS.out).mono ?_
    rintro e w2 ⟨rfl, hb2⟩
    have HB2 := Lib.hid (HB1.out.trans (hb2.mono HB1.out.size))
    clear hb2
    go_wp2
    go_ret
    exact ⟨rfl, HB2.out⟩
set_option maxRecDepth 100000 in
set_option maxHeartbeats 8000000 in
theorem poolsRight_yes (H : PoolsOk) (A : Option Addr) (n c : Nat) (A2 : Option Addr) (n2 c2 : Nat) (ls : List (List (Int × Int))) (ns : List Int) (a b : Int) (w : World) (hp : PAsk w A n c ls) (hq : NAsk w A2 n2 ns) (hs : shortB ls = true) (ha : I64 a) (hb : I64 b) (q1 q2 : List (List (Int × Int))) (e1 e2 : Int) (h1 : changePP false ls a b ns = (q1, e1)) (h2 : changePP true ls a b ns = (q2, e2)) (hk1 : q1.length ≤ 10) (hk2 : q2.length ≤ 10) (hs1 : ∀ j, j < q1.length → (q1.getD j []).length ≤ 1100) (hs2 : ∀ j, j < q2.length → (q2.getD j []).length ≤ 1100) (hr : rightPP ls = true) :
    Calls Try.prog 3 #[.slice A n c, .int .i64 a, .int .i64 b, .slice A2 n2 c2] w fun e w' => e = .returned (.bool true) ∧ Below w.heap.size w w' := by
  have FP := Lib.hid hp
  have FN := Lib.hid hq
  have HS := Lib.hid hs
  have hk10 := hp.kinds
  have hf10 := hq.few
  have HB := Lib.hid (Below.refl w.heap.size w)
  have H_a := Lib.hid ha
  have ha1 := ha.1
  have ha2 := ha.2
  have H_b := Lib.hid hb
  have hb1 := hb.1
  have hb2 := hb.2
  have H1 := Lib.hid h1
  have H2 := Lib.hid h2
  have HK1 := Lib.hid hk1
  have HK2 := Lib.hid hk2
  have HS1 := Lib.hid hs1
  have HS2 := Lib.hid hs2
  have HR := Lib.hid hr
  clear hp hq hs ha hb h1 h2 hk1 hk2 hs1 hs2 hr
  obtain ⟨i0, hi0, hz0, hz1, hz2⟩ := info_parts step_info
  obtain ⟨i1, hi1, hy0, hy1, hy2⟩ := info_parts slsl_info
  obtain ⟨i2, hi2, hx0, hx1, hx2⟩ := info_parts int_info
  go_enter Try.func3, Try.ntmps3
  go_wp2_with fail
  refine (poolsAwake_any H _).mono ?_
  rintro e w1 ⟨rfl, hb1⟩
  have hBz := HB.out.size
  have HB2 := Lib.hid (HB.out.trans (hb1.mono hBz))
  clear HB hBz
  have HB := HB2
  clear HB2
  have FP2 := Lib.hid (FP.out.next hb1)
  clear FP
  have FP := FP2
  clear FP2
  have FN2 := Lib.hid (FN.out.next hb1)
  clear FN
  have FN := FN2
  clear FN2
  clear hb1
  go_wp2_with fail
  refine (calls_bool (short_any _ _ _ ls _ FP.out.reads (ml10 FP.out.kinds)) HS.out).mono ?_
  rintro e w2 ⟨rfl, hb2⟩
  have hBz := HB.out.size
  have HB2 := Lib.hid (HB.out.trans (hb2.mono hBz))
  clear HB hBz
  have HB := HB2
  clear HB2
  have FP2 := Lib.hid (FP.out.next hb2)
  clear FP
  have FP := FP2
  clear FP2
  have FN2 := Lib.hid (FN.out.next hb2)
  clear FN
  have FN := FN2
  clear FN2
  clear hb2
  go_wp2
  go_loopg [9, 10] n (fun g v i wr => ∃ k : Nat, k ≤ n ∧ g = n - k ∧ i = .int .i64 k ∧ ON ES 1 26 w2 v (ls.take k) wr)
  case atStart => exact ⟨0, by omega, rfl, rfl, by rw [List.take_zero]; exact ON.nil _⟩
  case round =>
    obtain ⟨k, hk, rfl, rfl, hON⟩ := hrel
    have HO := Lib.hid hON
    clear hON
    by_cases hlt : k < n
    · have hRr := Lib.hid (FP.out.reads.below HO.out.below)
      obtain ⟨b0, off, A', m, c', rfl, hb0, hc, hr', hnil', _, hm⟩ := hRr.out.one hlt
      have HR' := Lib.hid hr'
      have HNIL' := Lib.hid hnil'
      have HMX := Lib.hid hm
      have hm1 : m ≤ 1100 := by have h1 := FP.out.steps k hlt; have h2 := HR'.out.1; omega
      clear hr' hnil' hm
      have hbw := HO.out.below.size
      have hcA : (wr.alloc (.cells #[] 57)).cell? ⟨b0, off + k, none⟩ = some (.slice A' m c') := ((Below.alloc (Below.refl wr.heap.size wr) (Nat.le_refl _) (.cells #[] 57)).cell (p := ⟨b0, off + k, none⟩) (by show b0 < wr.heap.size; omega)).trans hc
      have hs1 : Hid (ls.take (k + 1) = ls.take k ++ [ls.getD k []]) := Lib.hid (by
        have hl : k < ls.length := by rw [FP.out.reads.len]; exact hlt
        rw [List.take_succ_eq_append_getElem hl, List.getD, List.getElem?_eq_getElem hl]
        rfl)
      have hlk : Hid ((ls.take k).length = k) := Lib.hid (by rw [List.length_take, FP.out.reads.len]; omega)
      obtain ⟨p, hp⟩ : ∃ p, ls.getD k [] = p := ⟨_, rfl⟩
      rw [hp] at HR' hs1
      clear hp hc
      go_wp2_with (at_builtin; refine wpList_append_RS _ rfl (.tmp 38) (.tmp 42) 26 rfl wr.heap.size 57 i0 (.agg #[.int .i64 0, .int .i64 0]) 16 Try.underlying26 hi0 hz0 hz1 hz2 rfl (.slice (some ⟨wr.heap.size, 0, none⟩) 0 0) 0 [] rfl (own_empty2 wr _) w2.heap.size A' m c' p rfl (HR'.out.below (Below.alloc (Below.refl _ _) hbw _)) HNIL'.out (by unfold maxLen; omega) (by omega) (by simp) ?_; intro vx wx hownx hgx; refine Hid.out ?_)
      refine Lib.hid ?_
      rw [List.nil_append, Nat.zero_add] at hownx
      obtain ⟨A3, c3, rfl⟩ := own_form hownx
      have HBx := Lib.hid ((Below.alloc (Below.refl wr.heap.size wr) (Nat.le_refl _) (.cells #[] 57)).grown hgx (by simp) (fun j hj => by simp [Value.ownBlock] at hj; omega))
      have HOx := Lib.hid (HO.out.next es_steady HBx.out)
      have HES := Lib.hid (es_of_copy (fun g hg => (own_at HO.out g hg).2) hownx HMX.out HO.out)
      clear hownx hgx
      go_wp2_with (at_builtin; refine wpList_append_ON rfl (.tmp 37) (.tmp 44) 22 rfl es_steady HOx.out i1 (.slice none 0 0) 24 Try.underlying22 hi1 hy0 hy1 hy2 rfl (by decide) rfl p #[.slice A3 m c3] rfl rfl (by intro u hu; simp at hu; subst hu; rfl) HES.out (by rw [hlk.out]; unfold maxLen; omega) (by rw [hlk.out]; omega) ?_; intro v' w4 hON4; refine Hid.out ?_)
      refine Lib.hid ?_
      have HO4 := Lib.hid hON4
      clear hON4
      go_wp2
      go_roundg (n - (k + 1))
      case measure => omega
      case rel => exact ⟨k + 1, by omega, rfl, by go_num, by rw [hs1.out]; exact HO4.out⟩
    · obtain rfl : n = k := by omega
      have htk : ls.take n = ls := List.take_of_length_le (by rw [FP.out.reads.len]; exact Nat.le_refl _)
      have HO2 : Hid (ON ES 1 26 w2 _ ls wr) := Lib.hid (by have := HO.out; rw [htk] at this; exact this)
      clear HO htk
      obtain ⟨Am, cm, rfl, hnm, hcm⟩ := HO2.out.form
      have hbm := HO2.out.below
      have hrm := HO2.out.reads es_steady (by omega) rfl
      have hln := FP.out.reads.len
      have FM := Lib.hid (show PAsk wr Am ls.length cm ls from ⟨hrm, hnm, hcm, by have := FP.out.kinds; omega, by rw [hln]; exact FP.out.steps⟩)
      clear hnm hcm hrm HO2
      have hBz := HB.out.size
      have HB2 := Lib.hid (HB.out.trans (hbm.mono hBz))
      clear HB hBz
      have HB := HB2
      clear HB2
      have FP2 := Lib.hid (FP.out.next hbm)
      clear FP
      have FP := FP2
      clear FP2
      have FN2 := Lib.hid (FN.out.next hbm)
      clear FN
      have FN := FN2
      clear FN2
      clear hbm
      have HLN := Lib.hid hln
      clear hln
      go_wp2_with fail
      refine (calls_ppost (H.take _ _ _ _ _ _ _ a b _ _ FM.out FN.out H_a.out H_b.out) H1.out).mono ?_
      rintro e w3 ⟨⟨A3, c3, rfl, hr3, hnil3, hc3⟩, hb3⟩
      have hBz := HB.out.size
      have HB2 := Lib.hid (HB.out.trans (hb3.mono hBz))
      clear HB hBz
      have HB := HB2
      clear HB2
      have FP2 := Lib.hid (FP.out.next hb3)
      clear FP
      have FP := FP2
      clear FP2
      have FN2 := Lib.hid (FN.out.next hb3)
      clear FN
      have FN := FN2
      clear FN2
      have FM2 := Lib.hid (FM.out.next hb3)
      clear FM
      have FM := FM2
      clear FM2
      clear hb3
      have F1 := Lib.hid (show PAsk w3 A3 _ c3 _ from ⟨hr3, hnil3, hc3, HK1.out, HS1.out⟩)
      clear hr3 hnil3 hc3
      go_wp2_with fail
      refine (calls_ppost (r_take FP.out FN.out) H1.out).mono ?_
      rintro e w4 ⟨⟨A4, c4, rfl, hr4, hnil4, hc4⟩, hb4⟩
      have hBz := HB.out.size
      have HB2 := Lib.hid (HB.out.trans (hb4.mono hBz))
      clear HB hBz
      have HB := HB2
      clear HB2
      have FP2 := Lib.hid (FP.out.next hb4)
      clear FP
      have FP := FP2
      clear FP2
      have FN2 := Lib.hid (FN.out.next hb4)
      clear FN
      have FN := FN2
      clear FN2
      have FM2 := Lib.hid (FM.out.next hb4)
      clear FM
      have FM := FM2
      clear FM2
      have F12 := Lib.hid (F1.out.next hb4)
      clear F1
      have F1 := F12
      clear F12
      clear hb4
      have F2 := Lib.hid hr4
      clear hr4 hnil4 hc4
      go_wp2_with fail
      refine (calls_ppost (H.give _ _ _ _ _ _ _ a b _ _ FM.out FN.out H_a.out H_b.out) H2.out).mono ?_
      rintro e w5 ⟨⟨A5, c5, rfl, hr5, hnil5, hc5⟩, hb5⟩
      have hBz := HB.out.size
      have HB2 := Lib.hid (HB.out.trans (hb5.mono hBz))
      clear HB hBz
      have HB := HB2
      clear HB2
      have FP2 := Lib.hid (FP.out.next hb5)
      clear FP
      have FP := FP2
      clear FP2
      have FN2 := Lib.hid (FN.out.next hb5)
      clear FN
      have FN := FN2
      clear FN2
      have FM2 := Lib.hid (FM.out.next hb5)
      clear FM
      have FM := FM2
      clear FM2
      have F12 := Lib.hid (F1.out.next hb5)
      clear F1
      have F1 := F12
      clear F12
      have F22 := Lib.hid (F2.out.next hb5)
      clear F2
      have F2 := F22
      clear F22
      clear hb5
      have F3 := Lib.hid (show PAsk w5 A5 _ c5 _ from ⟨hr5, hnil5, hc5, HK2.out, HS2.out⟩)
      clear hr5 hnil5 hc5
      go_wp2_with fail
      refine (calls_ppost (r_give FP.out FN.out) H2.out).mono ?_
      rintro e w6 ⟨⟨A6, c6, rfl, hr6, hnil6, hc6⟩, hb6⟩
      have hBz := HB.out.size
      have HB2 := Lib.hid (HB.out.trans (hb6.mono hBz))
      clear HB hBz
      have HB := HB2
      clear HB2
      have FP2 := Lib.hid (FP.out.next hb6)
      clear FP
      have FP := FP2
      clear FP2
      have FN2 := Lib.hid (FN.out.next hb6)
      clear FN
      have FN := FN2
      clear FN2
      have FM2 := Lib.hid (FM.out.next hb6)
      clear FM
      have FM := FM2
      clear FM2
      have F12 := Lib.hid (F1.out.next hb6)
      clear F1
      have F1 := F12
      clear F12
      have F22 := Lib.hid (F2.out.next hb6)
      clear F2
      have F2 := F22
      clear F22
      have F32 := Lib.hid (F3.out.next hb6)
      clear F3
      have F3 := F32
      clear F32
      clear hb6
      have F4 := Lib.hid hr6
      clear hr6 hnil6 hc6
      go_wp2_with fail
      refine (calls_bool (H.right _ _ _ _ _ FM.out) HR.out).mono ?_
      rintro e w7 ⟨rfl, hb7⟩
      have hBz := HB.out.size
      have HB2 := Lib.hid (HB.out.trans (hb7.mono hBz))
      clear HB hBz
      have HB := HB2
      clear HB2
      have FP2 := Lib.hid (FP.out.next hb7)
      clear FP
      have FP := FP2
      clear FP2
      have FN2 := Lib.hid (FN.out.next hb7)
      clear FN
      have FN := FN2
      clear FN2
      have FM2 := Lib.hid (FM.out.next hb7)
      clear FM
      have FM := FM2
      clear FM2
      have F12 := Lib.hid (F1.out.next hb7)
      clear F1
      have F1 := F12
      clear F12
      have F22 := Lib.hid (F2.out.next hb7)
      clear F2
      have F2 := F22
      clear F22
      have F32 := Lib.hid (F3.out.next hb7)
      clear F3
      have F3 := F32
      clear F32
      have F42 := Lib.hid (F4.out.next hb7)
      clear F4
      have F4 := F42
      clear F42
      clear hb7
      go_wp2_with fail
      refine (calls_bool (r_right FP.out) HR.out).mono ?_
      rintro e w8 ⟨rfl, hb8⟩
      have hBz := HB.out.size
      have HB2 := Lib.hid (HB.out.trans (hb8.mono hBz))
      clear HB hBz
      have HB := HB2
      clear HB2
      have FP2 := Lib.hid (FP.out.next hb8)
      clear FP
      have FP := FP2
      clear FP2
      have FN2 := Lib.hid (FN.out.next hb8)
      clear FN
      have FN := FN2
      clear FN2
      have FM2 := Lib.hid (FM.out.next hb8)
      clear FM
      have FM := FM2
      clear FM2
      have F12 := Lib.hid (F1.out.next hb8)
      clear F1
      have F1 := F12
      clear F12
      have F22 := Lib.hid (F2.out.next hb8)
      clear F2
      have F2 := F22
      clear F22
      have F32 := Lib.hid (F3.out.next hb8)
      clear F3
      have F3 := F32
      clear F32
      have F42 := Lib.hid (F4.out.next hb8)
      clear F4
      have F4 := F42
      clear F42
      clear hb8
      go_wp2_with fail
      refine (r_same F1.out F2.out rfl).mono ?_
      rintro e w9 ⟨rfl, hb9⟩
      have hBz := HB.out.size
      have HB2 := Lib.hid (HB.out.trans (hb9.mono hBz))
      clear HB hBz
      have HB := HB2
      clear HB2
      have FP2 := Lib.hid (FP.out.next hb9)
      clear FP
      have FP := FP2
      clear FP2
      have FN2 := Lib.hid (FN.out.next hb9)
      clear FN
      have FN := FN2
      clear FN2
      have FM2 := Lib.hid (FM.out.next hb9)
      clear FM
      have FM := FM2
      clear FM2
      have F12 := Lib.hid (F1.out.next hb9)
      clear F1
      have F1 := F12
      clear F12
      have F22 := Lib.hid (F2.out.next hb9)
      clear F2
      have F2 := F22
      clear F22
      have F32 := Lib.hid (F3.out.next hb9)
      clear F3
      have F3 := F32
      clear F32
      have F42 := Lib.hid (F4.out.next hb9)
      clear F4
      have F4 := F42
      clear F42
      clear hb9
      go_wp2_with fail
      refine (r_same F3.out F4.out rfl).mono ?_
      rintro e w10 ⟨rfl, hb10⟩
      have hBz := HB.out.size
      have HB2 := Lib.hid (HB.out.trans (hb10.mono hBz))
      clear HB hBz
      have HB := HB2
      clear HB2
      have FP2 := Lib.hid (FP.out.next hb10)
      clear FP
      have FP := FP2
      clear FP2
      have FN2 := Lib.hid (FN.out.next hb10)
      clear FN
      have FN := FN2
      clear FN2
      have FM2 := Lib.hid (FM.out.next hb10)
      clear FM
      have FM := FM2
      clear FM2
      have F12 := Lib.hid (F1.out.next hb10)
      clear F1
      have F1 := F12
      clear F12
      have F22 := Lib.hid (F2.out.next hb10)
      clear F2
      have F2 := F22
      clear F22
      have F32 := Lib.hid (F3.out.next hb10)
      clear F3
      have F3 := F32
      clear F32
      have F42 := Lib.hid (F4.out.next hb10)
      clear F4
      have F4 := F42
      clear F42
      clear hb10
      go_wp2_with fail
      refine (r_same FM.out FP.out.reads rfl).mono ?_
      rintro e w11 ⟨rfl, hb11⟩
      have hBz := HB.out.size
      have HB2 := Lib.hid (HB.out.trans (hb11.mono hBz))
      clear HB hBz
      have HB := HB2
      clear HB2
      have FP2 := Lib.hid (FP.out.next hb11)
      clear FP
      have FP := FP2
      clear FP2
      have FN2 := Lib.hid (FN.out.next hb11)
      clear FN
      have FN := FN2
      clear FN2
      have FM2 := Lib.hid (FM.out.next hb11)
      clear FM
      have FM := FM2
      clear FM2
      have F12 := Lib.hid (F1.out.next hb11)
      clear F1
      have F1 := F12
      clear F12
      have F22 := Lib.hid (F2.out.next hb11)
      clear F2
      have F2 := F22
      clear F22
      have F32 := Lib.hid (F3.out.next hb11)
      clear F3
      have F3 := F32
      clear F32
      have F42 := Lib.hid (F4.out.next hb11)
      clear F4
      have F4 := F42
      clear F42
      clear hb11
      clear F1
      clear F2
      clear F3
      clear F4
      go_wp2
      go_loopg [19, 20] n (fun g v i wr => ∃ k : Nat, k ≤ n ∧ g = n - k ∧ i = .int .i64 k ∧ ON EI 1 3 w11 v ((atPP ls a).take k) wr)
      case atStart => exact ⟨0, by omega, rfl, rfl, by rw [List.take_zero]; exact ON.nil _⟩
      case round =>
        obtain ⟨k, hk, rfl, rfl, hON⟩ := hrel
        have HO := Lib.hid hON
        clear hON
        have hbw := HO.out.below.size
        by_cases hlt : k < n
        · have FPr := Lib.hid (FP.out.next HO.out.below)
          have hAT : Hid ((atPP ls a).take (k + 1) = (atPP ls a).take k ++ [atR (ls.getD k []) a]) := Lib.hid (by
            have hl : k < (atPP ls a).length := by rw [atPP_len HR.out, HLN.out]; exact hlt
            have hg := atPP_getD HR.out a (j := k) (by rw [HLN.out]; exact hlt)
            rw [List.getD, List.getElem?_eq_getElem hl] at hg
            rw [List.take_succ_eq_append_getElem hl]
            exact congrArg (fun y => (atPP ls a).take k ++ [y]) hg)
          have hlk : Hid (((atPP ls a).take k).length = k) := Lib.hid (by rw [List.length_take, atPP_len HR.out, HLN.out]; omega)
          go_wp2_with fail
          refine (calls_bool (r_right FPr.out) HR.out).mono ?_
          rintro e wq ⟨rfl, hbq⟩
          have FPq := Lib.hid (FPr.out.next hbq)
          have HO3 := Lib.hid (HO.out.next ei_steady hbq)
          clear hbq FPr
          obtain ⟨b0, off, A', m, c', rfl, hb0, hc, hr', _, _, _⟩ := FPq.out.reads.one hlt
          have HR' := Lib.hid hr'
          have hm1 : m ≤ 2000 := by have h1 := FPq.out.steps k hlt; have h2 := HR'.out.1; omega
          clear hr'
          go_wp2_with fail
          refine (s_at HR'.out hm1).mono ?_
          rintro e wt ⟨rfl, hbt⟩
          have HO4 := Lib.hid (HO3.out.next ei_steady hbt)
          clear hbt hc
          generalize atR (ls.getD k []) a = x at *
          go_wp2_with (at_builtin; refine wpList_append_ON rfl (.tmp 121) (.tmp 128) 23 rfl ei_steady HO4.out i2 (.int .i64 0) 8 Try.underlying23 hi2 hx0 hx1 hx2 rfl (by decide) rfl x #[.int .i64 x] rfl rfl (by intro u hu; simp at hu; subst hu; rfl) rfl (by rw [hlk.out]; unfold maxLen; omega) (by rw [hlk.out]; omega) ?_; intro v' w4 hON4; refine Hid.out ?_)
          refine Lib.hid ?_
          have HO5 := Lib.hid hON4
          clear hON4
          go_wp2
          go_roundg (n - (k + 1))
          case measure => omega
          case rel => exact ⟨k + 1, by omega, rfl, by go_num, by rw [hAT.out]; exact HO5.out⟩
        · obtain rfl : n = k := by omega
          have htk : (atPP ls a).take n = atPP ls a := List.take_of_length_le (by rw [atPP_len HR.out, HLN.out]; exact Nat.le_refl _)
          have HO2 : Hid (ON EI 1 3 w11 _ (atPP ls a) wr) := Lib.hid (by have := HO.out; rw [htk] at this; exact this)
          clear HO htk
          obtain ⟨Aa, ca, rfl, _, _⟩ := HO2.out.form
          have hba := HO2.out.below
          have FA := Lib.hid (RN.ri (HO2.out.reads ei_steady (by omega) rfl))
          have hla : (atPP ls a).length ≤ 10 := by rw [atPP_len HR.out, HLN.out]; exact FP.out.kinds
          clear HO2
          have hBz := HB.out.size
          have HB2 := Lib.hid (HB.out.trans (hba.mono hBz))
          clear HB hBz
          have HB := HB2
          clear HB2
          have FP2 := Lib.hid (FP.out.next hba)
          clear FP
          have FP := FP2
          clear FP2
          have FN2 := Lib.hid (FN.out.next hba)
          clear FN
          have FN := FN2
          clear FN2
          have FM2 := Lib.hid (FM.out.next hba)
          clear FM
          have FM := FM2
          clear FM2
          clear hba
          go_wp2_with fail
          refine (H.at_ _ _ _ ls a _ FM.out H_a.out).mono ?_
          rintro e w12 ⟨⟨A12, c12, rfl, hr12, hnil12, hc12⟩, hb12⟩
          have hBz := HB.out.size
          have HB2 := Lib.hid (HB.out.trans (hb12.mono hBz))
          clear HB hBz
          have HB := HB2
          clear HB2
          have FP2 := Lib.hid (FP.out.next hb12)
          clear FP
          have FP := FP2
          clear FP2
          have FN2 := Lib.hid (FN.out.next hb12)
          clear FN
          have FN := FN2
          clear FN2
          have FM2 := Lib.hid (FM.out.next hb12)
          clear FM
          have FM := FM2
          clear FM2
          have FA2 := Lib.hid (FA.out.next hb12)
          clear FA
          have FA := FA2
          clear FA2
          clear hb12
          have F9 := Lib.hid hr12
          clear hr12 hnil12 hc12
          go_wp2_with fail
          refine (r_same1 F9.out FA.out (ml10 hla) rfl).mono ?_
          rintro e w13 ⟨rfl, hb13⟩
          have hBz := HB.out.size
          have HB2 := Lib.hid (HB.out.trans (hb13.mono hBz))
          clear HB hBz
          have HB := HB2
          clear HB2
          have FP2 := Lib.hid (FP.out.next hb13)
          clear FP
          have FP := FP2
          clear FP2
          have FN2 := Lib.hid (FN.out.next hb13)
          clear FN
          have FN := FN2
          clear FN2
          have FM2 := Lib.hid (FM.out.next hb13)
          clear FM
          have FM := FM2
          clear FM2
          have FA2 := Lib.hid (FA.out.next hb13)
          clear FA
          have FA := FA2
          clear FA2
          have F92 := Lib.hid (F9.out.next hb13)
          clear F9
          have F9 := F92
          clear F92
          clear hb13
          go_wp2
          go_ret
          exact ⟨rfl, HB.out⟩

set_option maxRecDepth 100000 in
set_option maxHeartbeats 8000000 in
theorem poolsRight_no (H : PoolsOk) (A : Option Addr) (n c : Nat) (A2 : Option Addr) (n2 c2 : Nat) (ls : List (List (Int × Int))) (ns : List Int) (a b : Int) (w : World) (hp : PAsk w A n c ls) (hq : NAsk w A2 n2 ns) (hs : shortB ls = true) (ha : I64 a) (hb : I64 b) (q1 q2 : List (List (Int × Int))) (e1 e2 : Int) (h1 : changePP false ls a b ns = (q1, e1)) (h2 : changePP true ls a b ns = (q2, e2)) (hk1 : q1.length ≤ 10) (hk2 : q2.length ≤ 10) (hs1 : ∀ j, j < q1.length → (q1.getD j []).length ≤ 1100) (hs2 : ∀ j, j < q2.length → (q2.getD j []).length ≤ 1100) (hr : rightPP ls = false) (hat : atPP ls a = []) :
    Calls Try.prog 3 #[.slice A n c, .int .i64 a, .int .i64 b, .slice A2 n2 c2] w fun e w' => e = .returned (.bool true) ∧ Below w.heap.size w w' := by
  have FP := Lib.hid hp
  have FN := Lib.hid hq
  have HS := Lib.hid hs
  have hk10 := hp.kinds
  have hf10 := hq.few
  have HB := Lib.hid (Below.refl w.heap.size w)
  have H_a := Lib.hid ha
  have ha1 := ha.1
  have ha2 := ha.2
  have H_b := Lib.hid hb
  have hb1 := hb.1
  have hb2 := hb.2
  have H1 := Lib.hid h1
  have H2 := Lib.hid h2
  have HK1 := Lib.hid hk1
  have HK2 := Lib.hid hk2
  have HS1 := Lib.hid hs1
  have HS2 := Lib.hid hs2
  have HR := Lib.hid hr
  have HAT := Lib.hid hat
  clear hp hq hs ha hb h1 h2 hk1 hk2 hs1 hs2 hr hat
  obtain ⟨i0, hi0, hz0, hz1, hz2⟩ := info_parts step_info
  obtain ⟨i1, hi1, hy0, hy1, hy2⟩ := info_parts slsl_info
  go_enter Try.func3, Try.ntmps3
  go_wp2_with fail
  refine (poolsAwake_any H _).mono ?_
  rintro e w1 ⟨rfl, hb1⟩
  have hBz := HB.out.size
  have HB2 := Lib.hid (HB.out.trans (hb1.mono hBz))
  clear HB hBz
  have HB := HB2
  clear HB2
  have FP2 := Lib.hid (FP.out.next hb1)
  clear FP
  have FP := FP2
  clear FP2
  have FN2 := Lib.hid (FN.out.next hb1)
  clear FN
  have FN := FN2
  clear FN2
  clear hb1
  go_wp2_with fail
  refine (calls_bool (short_any _ _ _ ls _ FP.out.reads (ml10 FP.out.kinds)) HS.out).mono ?_
  rintro e w2 ⟨rfl, hb2⟩
  have hBz := HB.out.size
  have HB2 := Lib.hid (HB.out.trans (hb2.mono hBz))
  clear HB hBz
  have HB := HB2
  clear HB2
  have FP2 := Lib.hid (FP.out.next hb2)
  clear FP
  have FP := FP2
  clear FP2
  have FN2 := Lib.hid (FN.out.next hb2)
  clear FN
  have FN := FN2
  clear FN2
  clear hb2
  go_wp2
  go_loopg [9, 10] n (fun g v i wr => ∃ k : Nat, k ≤ n ∧ g = n - k ∧ i = .int .i64 k ∧ ON ES 1 26 w2 v (ls.take k) wr)
  case atStart => exact ⟨0, by omega, rfl, rfl, by rw [List.take_zero]; exact ON.nil _⟩
  case round =>
    obtain ⟨k, hk, rfl, rfl, hON⟩ := hrel
    have HO := Lib.hid hON
    clear hON
    by_cases hlt : k < n
    · have hRr := Lib.hid (FP.out.reads.below HO.out.below)
      obtain ⟨b0, off, A', m, c', rfl, hb0, hc, hr', hnil', _, hm⟩ := hRr.out.one hlt
      have HR' := Lib.hid hr'
      have HNIL' := Lib.hid hnil'
      have HMX := Lib.hid hm
      have hm1 : m ≤ 1100 := by have h1 := FP.out.steps k hlt; have h2 := HR'.out.1; omega
      clear hr' hnil' hm
      have hbw := HO.out.below.size
      have hcA : (wr.alloc (.cells #[] 57)).cell? ⟨b0, off + k, none⟩ = some (.slice A' m c') := ((Below.alloc (Below.refl wr.heap.size wr) (Nat.le_refl _) (.cells #[] 57)).cell (p := ⟨b0, off + k, none⟩) (by show b0 < wr.heap.size; omega)).trans hc
      have hs1 : Hid (ls.take (k + 1) = ls.take k ++ [ls.getD k []]) := Lib.hid (by
        have hl : k < ls.length := by rw [FP.out.reads.len]; exact hlt
        rw [List.take_succ_eq_append_getElem hl, List.getD, List.getElem?_eq_getElem hl]
        rfl)
      have hlk : Hid ((ls.take k).length = k) := Lib.hid (by rw [List.length_take, FP.out.reads.len]; omega)
      obtain ⟨p, hp⟩ : ∃ p, ls.getD k [] = p := ⟨_, rfl⟩
      rw [hp] at HR' hs1
      clear hp hc
      go_wp2_with (at_builtin; refine wpList_append_RS _ rfl (.tmp 38) (.tmp 42) 26 rfl wr.heap.size 57 i0 (.agg #[.int .i64 0, .int .i64 0]) 16 Try.underlying26 hi0 hz0 hz1 hz2 rfl (.slice (some ⟨wr.heap.size, 0, none⟩) 0 0) 0 [] rfl (own_empty2 wr _) w2.heap.size A' m c' p rfl (HR'.out.below (Below.alloc (Below.refl _ _) hbw _)) HNIL'.out (by unfold maxLen; omega) (by omega) (by simp) ?_; intro vx wx hownx hgx; refine Hid.out ?_)
      refine Lib.hid ?_
      rw [List.nil_append, Nat.zero_add] at hownx
      obtain ⟨A3, c3, rfl⟩ := own_form hownx
      have HBx := Lib.hid ((Below.alloc (Below.refl wr.heap.size wr) (Nat.le_refl _) (.cells #[] 57)).grown hgx (by simp) (fun j hj => by simp [Value.ownBlock] at hj; omega))
      have HOx := Lib.hid (HO.out.next es_steady HBx.out)
      have HES := Lib.hid (es_of_copy (fun g hg => (own_at HO.out g hg).2) hownx HMX.out HO.out)
      clear hownx hgx
      go_wp2_with (at_builtin; refine wpList_append_ON rfl (.tmp 37) (.tmp 44) 22 rfl es_steady HOx.out i1 (.slice none 0 0) 24 Try.underlying22 hi1 hy0 hy1 hy2 rfl (by decide) rfl p #[.slice A3 m c3] rfl rfl (by intro u hu; simp at hu; subst hu; rfl) HES.out (by rw [hlk.out]; unfold maxLen; omega) (by rw [hlk.out]; omega) ?_; intro v' w4 hON4; refine Hid.out ?_)
      refine Lib.hid ?_
      have HO4 := Lib.hid hON4
      clear hON4
      go_wp2
      go_roundg (n - (k + 1))
      case measure => omega
      case rel => exact ⟨k + 1, by omega, rfl, by go_num, by rw [hs1.out]; exact HO4.out⟩
    · obtain rfl : n = k := by omega
      have htk : ls.take n = ls := List.take_of_length_le (by rw [FP.out.reads.len]; exact Nat.le_refl _)
      have HO2 : Hid (ON ES 1 26 w2 _ ls wr) := Lib.hid (by have := HO.out; rw [htk] at this; exact this)
      clear HO htk
      obtain ⟨Am, cm, rfl, hnm, hcm⟩ := HO2.out.form
      have hbm := HO2.out.below
      have hrm := HO2.out.reads es_steady (by omega) rfl
      have hln := FP.out.reads.len
      have FM := Lib.hid (show PAsk wr Am ls.length cm ls from ⟨hrm, hnm, hcm, by have := FP.out.kinds; omega, by rw [hln]; exact FP.out.steps⟩)
      clear hnm hcm hrm HO2
      have hBz := HB.out.size
      have HB2 := Lib.hid (HB.out.trans (hbm.mono hBz))
      clear HB hBz
      have HB := HB2
      clear HB2
      have FP2 := Lib.hid (FP.out.next hbm)
      clear FP
      have FP := FP2
      clear FP2
      have FN2 := Lib.hid (FN.out.next hbm)
      clear FN
      have FN := FN2
      clear FN2
      clear hbm
      have HLN := Lib.hid hln
      clear hln
      go_wp2_with fail
      refine (calls_ppost (H.take _ _ _ _ _ _ _ a b _ _ FM.out FN.out H_a.out H_b.out) H1.out).mono ?_
      rintro e w3 ⟨⟨A3, c3, rfl, hr3, hnil3, hc3⟩, hb3⟩
      have hBz := HB.out.size
      have HB2 := Lib.hid (HB.out.trans (hb3.mono hBz))
      clear HB hBz
      have HB := HB2
      clear HB2
      have FP2 := Lib.hid (FP.out.next hb3)
      clear FP
      have FP := FP2
      clear FP2
      have FN2 := Lib.hid (FN.out.next hb3)
      clear FN
      have FN := FN2
      clear FN2
      have FM2 := Lib.hid (FM.out.next hb3)
      clear FM
      have FM := FM2
      clear FM2
      clear hb3
      have F1 := Lib.hid (show PAsk w3 A3 _ c3 _ from ⟨hr3, hnil3, hc3, HK1.out, HS1.out⟩)
      clear hr3 hnil3 hc3
      go_wp2_with fail
      refine (calls_ppost (r_take FP.out FN.out) H1.out).mono ?_
      rintro e w4 ⟨⟨A4, c4, rfl, hr4, hnil4, hc4⟩, hb4⟩
      have hBz := HB.out.size
      have HB2 := Lib.hid (HB.out.trans (hb4.mono hBz))
      clear HB hBz
      have HB := HB2
      clear HB2
      have FP2 := Lib.hid (FP.out.next hb4)
      clear FP
      have FP := FP2
      clear FP2
      have FN2 := Lib.hid (FN.out.next hb4)
      clear FN
      have FN := FN2
      clear FN2
      have FM2 := Lib.hid (FM.out.next hb4)
      clear FM
      have FM := FM2
      clear FM2
      have F12 := Lib.hid (F1.out.next hb4)
      clear F1
      have F1 := F12
      clear F12
      clear hb4
      have F2 := Lib.hid hr4
      clear hr4 hnil4 hc4
      go_wp2_with fail
      refine (calls_ppost (H.give _ _ _ _ _ _ _ a b _ _ FM.out FN.out H_a.out H_b.out) H2.out).mono ?_
      rintro e w5 ⟨⟨A5, c5, rfl, hr5, hnil5, hc5⟩, hb5⟩
      have hBz := HB.out.size
      have HB2 := Lib.hid (HB.out.trans (hb5.mono hBz))
      clear HB hBz
      have HB := HB2
      clear HB2
      have FP2 := Lib.hid (FP.out.next hb5)
      clear FP
      have FP := FP2
      clear FP2
      have FN2 := Lib.hid (FN.out.next hb5)
      clear FN
      have FN := FN2
      clear FN2
      have FM2 := Lib.hid (FM.out.next hb5)
      clear FM
      have FM := FM2
      clear FM2
      have F12 := Lib.hid (F1.out.next hb5)
      clear F1
      have F1 := F12
      clear F12
      have F22 := Lib.hid (F2.out.next hb5)
      clear F2
      have F2 := F22
      clear F22
      clear hb5
      have F3 := Lib.hid (show PAsk w5 A5 _ c5 _ from ⟨hr5, hnil5, hc5, HK2.out, HS2.out⟩)
      clear hr5 hnil5 hc5
      go_wp2_with fail
      refine (calls_ppost (r_give FP.out FN.out) H2.out).mono ?_
      rintro e w6 ⟨⟨A6, c6, rfl, hr6, hnil6, hc6⟩, hb6⟩
      have hBz := HB.out.size
      have HB2 := Lib.hid (HB.out.trans (hb6.mono hBz))
      clear HB hBz
      have HB := HB2
      clear HB2
      have FP2 := Lib.hid (FP.out.next hb6)
      clear FP
      have FP := FP2
      clear FP2
      have FN2 := Lib.hid (FN.out.next hb6)
      clear FN
      have FN := FN2
      clear FN2
      have FM2 := Lib.hid (FM.out.next hb6)
      clear FM
      have FM := FM2
      clear FM2
      have F12 := Lib.hid (F1.out.next hb6)
      clear F1
      have F1 := F12
      clear F12
      have F22 := Lib.hid (F2.out.next hb6)
      clear F2
      have F2 := F22
      clear F22
      have F32 := Lib.hid (F3.out.next hb6)
      clear F3
      have F3 := F32
      clear F32
      clear hb6
      have F4 := Lib.hid hr6
      clear hr6 hnil6 hc6
      go_wp2_with fail
      refine (calls_bool (H.right _ _ _ _ _ FM.out) HR.out).mono ?_
      rintro e w7 ⟨rfl, hb7⟩
      have hBz := HB.out.size
      have HB2 := Lib.hid (HB.out.trans (hb7.mono hBz))
      clear HB hBz
      have HB := HB2
      clear HB2
      have FP2 := Lib.hid (FP.out.next hb7)
      clear FP
      have FP := FP2
      clear FP2
      have FN2 := Lib.hid (FN.out.next hb7)
      clear FN
      have FN := FN2
      clear FN2
      have FM2 := Lib.hid (FM.out.next hb7)
      clear FM
      have FM := FM2
      clear FM2
      have F12 := Lib.hid (F1.out.next hb7)
      clear F1
      have F1 := F12
      clear F12
      have F22 := Lib.hid (F2.out.next hb7)
      clear F2
      have F2 := F22
      clear F22
      have F32 := Lib.hid (F3.out.next hb7)
      clear F3
      have F3 := F32
      clear F32
      have F42 := Lib.hid (F4.out.next hb7)
      clear F4
      have F4 := F42
      clear F42
      clear hb7
      go_wp2_with fail
      refine (calls_bool (r_right FP.out) HR.out).mono ?_
      rintro e w8 ⟨rfl, hb8⟩
      have hBz := HB.out.size
      have HB2 := Lib.hid (HB.out.trans (hb8.mono hBz))
      clear HB hBz
      have HB := HB2
      clear HB2
      have FP2 := Lib.hid (FP.out.next hb8)
      clear FP
      have FP := FP2
      clear FP2
      have FN2 := Lib.hid (FN.out.next hb8)
      clear FN
      have FN := FN2
      clear FN2
      have FM2 := Lib.hid (FM.out.next hb8)
      clear FM
      have FM := FM2
      clear FM2
      have F12 := Lib.hid (F1.out.next hb8)
      clear F1
      have F1 := F12
      clear F12
      have F22 := Lib.hid (F2.out.next hb8)
      clear F2
      have F2 := F22
      clear F22
      have F32 := Lib.hid (F3.out.next hb8)
      clear F3
      have F3 := F32
      clear F32
      have F42 := Lib.hid (F4.out.next hb8)
      clear F4
      have F4 := F42
      clear F42
      clear hb8
      go_wp2_with fail
      refine (r_same F1.out F2.out rfl).mono ?_
      rintro e w9 ⟨rfl, hb9⟩
      have hBz := HB.out.size
      have HB2 := Lib.hid (HB.out.trans (hb9.mono hBz))
      clear HB hBz
      have HB := HB2
      clear HB2
      have FP2 := Lib.hid (FP.out.next hb9)
      clear FP
      have FP := FP2
      clear FP2
      have FN2 := Lib.hid (FN.out.next hb9)
      clear FN
      have FN := FN2
      clear FN2
      have FM2 := Lib.hid (FM.out.next hb9)
      clear FM
      have FM := FM2
      clear FM2
      have F12 := Lib.hid (F1.out.next hb9)
      clear F1
      have F1 := F12
      clear F12
      have F22 := Lib.hid (F2.out.next hb9)
      clear F2
      have F2 := F22
      clear F22
      have F32 := Lib.hid (F3.out.next hb9)
      clear F3
      have F3 := F32
      clear F32
      have F42 := Lib.hid (F4.out.next hb9)
      clear F4
      have F4 := F42
      clear F42
      clear hb9
      go_wp2_with fail
      refine (r_same F3.out F4.out rfl).mono ?_
      rintro e w10 ⟨rfl, hb10⟩
      have hBz := HB.out.size
      have HB2 := Lib.hid (HB.out.trans (hb10.mono hBz))
      clear HB hBz
      have HB := HB2
      clear HB2
      have FP2 := Lib.hid (FP.out.next hb10)
      clear FP
      have FP := FP2
      clear FP2
      have FN2 := Lib.hid (FN.out.next hb10)
      clear FN
      have FN := FN2
      clear FN2
      have FM2 := Lib.hid (FM.out.next hb10)
      clear FM
      have FM := FM2
      clear FM2
      have F12 := Lib.hid (F1.out.next hb10)
      clear F1
      have F1 := F12
      clear F12
      have F22 := Lib.hid (F2.out.next hb10)
      clear F2
      have F2 := F22
      clear F22
      have F32 := Lib.hid (F3.out.next hb10)
      clear F3
      have F3 := F32
      clear F32
      have F42 := Lib.hid (F4.out.next hb10)
      clear F4
      have F4 := F42
      clear F42
      clear hb10
      go_wp2_with fail
      refine (r_same FM.out FP.out.reads rfl).mono ?_
      rintro e w11 ⟨rfl, hb11⟩
      have hBz := HB.out.size
      have HB2 := Lib.hid (HB.out.trans (hb11.mono hBz))
      clear HB hBz
      have HB := HB2
      clear HB2
      have FP2 := Lib.hid (FP.out.next hb11)
      clear FP
      have FP := FP2
      clear FP2
      have FN2 := Lib.hid (FN.out.next hb11)
      clear FN
      have FN := FN2
      clear FN2
      have FM2 := Lib.hid (FM.out.next hb11)
      clear FM
      have FM := FM2
      clear FM2
      have F12 := Lib.hid (F1.out.next hb11)
      clear F1
      have F1 := F12
      clear F12
      have F22 := Lib.hid (F2.out.next hb11)
      clear F2
      have F2 := F22
      clear F22
      have F32 := Lib.hid (F3.out.next hb11)
      clear F3
      have F3 := F32
      clear F32
      have F42 := Lib.hid (F4.out.next hb11)
      clear F4
      have F4 := F42
      clear F42
      clear hb11
      clear F1
      clear F2
      clear F3
      clear F4
      go_wp2
      go_loopg [19, 20] 0 (fun g v i wr => g = 0 ∧ i = .int .i64 0 ∧ v = .slice none 0 0 ∧ wr = w11)
      case atStart => exact ⟨rfl, rfl, rfl, rfl⟩
      case round =>
        obtain ⟨rfl, rfl, rfl, rfl⟩ := hrel
        by_cases h0 : n = 0
        · subst h0
          go_wp2_with fail
          refine (calls_ipost (H.at_ _ _ _ ls a _ FM.out H_a.out) HAT.out).mono ?_
          rintro e w13 ⟨⟨A13, c13, rfl, hr13, hnil13, hc13⟩, hb13⟩
          have hBz := HB.out.size
          have HB2 := Lib.hid (HB.out.trans (hb13.mono hBz))
          clear HB hBz
          have HB := HB2
          clear HB2
          have FP2 := Lib.hid (FP.out.next hb13)
          clear FP
          have FP := FP2
          clear FP2
          have FN2 := Lib.hid (FN.out.next hb13)
          clear FN
          have FN := FN2
          clear FN2
          have FM2 := Lib.hid (FM.out.next hb13)
          clear FM
          have FM := FM2
          clear FM2
          clear hb13
          have F9 := Lib.hid hr13
          clear hr13 hnil13 hc13
          go_wp2_with fail
          refine (r_same1 F9.out RI.nil (by simp) rfl).mono ?_
          rintro e w14 ⟨rfl, hb14⟩
          have hBz := HB.out.size
          have HB2 := Lib.hid (HB.out.trans (hb14.mono hBz))
          clear HB hBz
          have HB := HB2
          clear HB2
          have FP2 := Lib.hid (FP.out.next hb14)
          clear FP
          have FP := FP2
          clear FP2
          have FN2 := Lib.hid (FN.out.next hb14)
          clear FN
          have FN := FN2
          clear FN2
          have FM2 := Lib.hid (FM.out.next hb14)
          clear FM
          have FM := FM2
          clear FM2
          have F92 := Lib.hid (F9.out.next hb14)
          clear F9
          have F9 := F92
          clear F92
          clear hb14
          go_wp2
          go_ret
          exact ⟨rfl, HB.out⟩

        · have hn0 : 0 < n := by omega
          go_wp2_with fail
          refine (calls_bool (r_right FP.out) HR.out).mono ?_
          rintro e w12 ⟨rfl, hb12⟩
          have hBz := HB.out.size
          have HB2 := Lib.hid (HB.out.trans (hb12.mono hBz))
          clear HB hBz
          have HB := HB2
          clear HB2
          have FP2 := Lib.hid (FP.out.next hb12)
          clear FP
          have FP := FP2
          clear FP2
          have FN2 := Lib.hid (FN.out.next hb12)
          clear FN
          have FN := FN2
          clear FN2
          have FM2 := Lib.hid (FM.out.next hb12)
          clear FM
          have FM := FM2
          clear FM2
          clear hb12
          go_wp2_with fail
          refine (calls_ipost (H.at_ _ _ _ ls a _ FM.out H_a.out) HAT.out).mono ?_
          rintro e w13 ⟨⟨A13, c13, rfl, hr13, hnil13, hc13⟩, hb13⟩
          have hBz := HB.out.size
          have HB2 := Lib.hid (HB.out.trans (hb13.mono hBz))
          clear HB hBz
          have HB := HB2
          clear HB2
          have FP2 := Lib.hid (FP.out.next hb13)
          clear FP
          have FP := FP2
          clear FP2
          have FN2 := Lib.hid (FN.out.next hb13)
          clear FN
          have FN := FN2
          clear FN2
          have FM2 := Lib.hid (FM.out.next hb13)
          clear FM
          have FM := FM2
          clear FM2
          clear hb13
          have F9 := Lib.hid hr13
          clear hr13 hnil13 hc13
          go_wp2_with fail
          refine (r_same1 F9.out RI.nil (by simp) rfl).mono ?_
          rintro e w14 ⟨rfl, hb14⟩
          have hBz := HB.out.size
          have HB2 := Lib.hid (HB.out.trans (hb14.mono hBz))
          clear HB hBz
          have HB := HB2
          clear HB2
          have FP2 := Lib.hid (FP.out.next hb14)
          clear FP
          have FP := FP2
          clear FP2
          have FN2 := Lib.hid (FN.out.next hb14)
          clear FN
          have FN := FN2
          clear FN2
          have FM2 := Lib.hid (FM.out.next hb14)
          clear FM
          have FM := FM2
          clear FM2
          have F92 := Lib.hid (F9.out.next hb14)
          clear F9
          have F9 := F92
          clear F92
          clear hb14
          go_wp2
          go_ret
          exact ⟨rfl, HB.out⟩


theorem poolsRight_walk (H : PoolsOk) (A : Option Addr) (n c : Nat) (A2 : Option Addr) (n2 c2 : Nat) (ls : List (List (Int × Int))) (ns : List Int) (a b : Int) (w : World) (hr : RSS w w.heap.size A n ls) (hnil : A = none → c = 0) (hnc : n ≤ c) (hn : n ≤ maxLen) (hr2 : RI w w.heap.size A2 n2 ns) (hn2 : n2 ≤ maxLen) (hns : ∀ x ∈ ns, I64 x) (ha : I64 a) (hb : I64 b) :
    Calls Try.prog 3 #[.slice A n c, .int .i64 a, .int .i64 b, .slice A2 n2 c2] w fun e w' => e = .returned (.bool true) ∧ Below w.heap.size w w' := by
  cases hs : shortB ls with
  | false => exact poolsRight_far H A n c A2 n2 c2 ls a b w hr hn hn2 (.inl hs)
  | true =>
    by_cases h10 : 10 < n2
    · exact poolsRight_far H A n c A2 n2 c2 ls a b w hr hn hn2 (.inr h10)
    · have hp := short_ask hs hr hnil hnc
      have hq : NAsk w A2 n2 ns := ⟨hr2, by omega, hns⟩
      have hl6 := (shortB_steps hs).1
      have l1 := changePP_len false ls a b ns
      have l2 := changePP_len true ls a b ns
      cases hrp : rightPP ls with
      | true => exact poolsRight_yes H A n c A2 n2 c2 ls ns a b w hp hq hs ha hb (changePP false ls a b ns).1 (changePP true ls a b ns).1 (changePP false ls a b ns).2 (changePP true ls a b ns).2 rfl rfl (by omega) (by omega) (changePP_steps false hs a b ns) (changePP_steps true hs a b ns) hrp
      | false => exact poolsRight_no H A n c A2 n2 c2 ls ns a b w hp hq hs ha hb (changePP false ls a b ns).1 (changePP true ls a b ns).1 (changePP false ls a b ns).2 (changePP true ls a b ns).2 rfl rfl (by omega) (by omega) (changePP_steps false hs a b ns) (changePP_steps true hs a b ns) hrp (by unfold atPP; rw [if_neg (by rw [hrp]; simp)])

end Go.Proofs.Ytkhnlbkghjjdnaa
