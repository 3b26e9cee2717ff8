/- The statement PoolsOne, as a walk over the contracts: of any profile, span and number the call returns true. -/
import Derived.Test.YtkhnlbkghjjdnaaPoolsAwake
import Derived.Deep.RegionHeld3
import Derived.Test.YtkhnlbkghjjdnaaPoolsLaws
namespace Go.Proofs.Ytkhnlbkghjjdnaa
open Go.RowKit

set_option maxRecDepth 100000 in
set_option maxHeartbeats 4000000 in
theorem poolsOne_far (H : PoolsOk) (A : Option Addr) (n c : Nat) (a b k : Int) (w : World) (hn : n ≤ maxLen) (hl : 100 < n) :
    Calls Try.prog 7 #[.slice A n c, .int .i64 a, .int .i64 b, .int .i64 k] w fun e w' => e = .returned (.bool true) ∧ Below w.heap.size w w' := by
  unfold maxLen at hn
  go_enter Try.func7, Try.ntmps7
  go_wp2_with fail
  refine (poolsAwake_any H _).mono ?_
  rintro e w1 ⟨rfl, hb1⟩
  go_wp2
  go_ret
  exact ⟨rfl, hb1⟩
set_option maxRecDepth 100000 in
set_option maxHeartbeats 4000000 in
theorem poolsOne_bad (HS : StepOk) (H : PoolsOk) (A : Option Addr) (n c : Nat) (p : List (Int × Int)) (a b k : Int) (w : World) (hr : RS w w.heap.size A n p) (hnil : A = none → c = 0) (hnc : n ≤ c) (hn2 : n ≤ 100) (ha : I64 a) (hb : I64 b) (hk : I64 k) (q : List (Int × Int)) (t : Int) (o : Bool) (hql : q.length ≤ 1100) (htk : takeR p a b k = (q, 1)) (hch : changePP false [p] a b [k] = ([q], 1)) (hfi : firstPP [p] a b [k] = (t, o)) (hfr : firstR p a b k = (t, o)) (hrl : rightPP [p] = false) (hrp : rightP p = false) (hat : atPP [p] a = []) :
    Calls Try.prog 7 #[.slice A n c, .int .i64 a, .int .i64 b, .int .i64 k] w fun e w' => e = .returned (.bool true) ∧ Below w.heap.size w w' := by
  have FP := Lib.hid hr
  have HN := Lib.hid hnil
  have HC := Lib.hid hnc
  have HL : Hid (n ≤ 2000) := Lib.hid (by omega)
  have HM : Hid (n ≤ maxLen) := Lib.hid (by unfold maxLen; omega)
  have HP1 : Hid (∀ j, j < 1 → (([p] : List (List (Int × Int))).getD j []).length ≤ 1100) := Lib.hid (fun j hj => by have : j = 0 := (by omega); subst this; show p.length ≤ 1100; have := hr.1; omega)
  have HQ1 : Hid (∀ j, j < ([q] : List (List (Int × Int))).length → (([q] : List (List (Int × Int))).getD j []).length ≤ 1100) := Lib.hid (fun j hj => by have : j = 0 := (by simpa using hj); subst this; exact hql)
  have HB := Lib.hid (Below.refl w.heap.size w)
  have H_a := Lib.hid ha
  have ha1 := ha.1
  have ha2 := ha.2
  have H_b := Lib.hid hb
  have hb1 := hb.1
  have hb2 := hb.2
  have H_k := Lib.hid hk
  have hk1 := hk.1
  have hk2 := hk.2
  have HTK := Lib.hid htk
  have HCH := Lib.hid hch
  have HFI := Lib.hid hfi
  have HFR := Lib.hid hfr
  have HRL := Lib.hid hrl
  have HRP := Lib.hid hrp
  have HAT := Lib.hid hat
  clear hr hnil hnc hql ha hb hk htk hch hfi hfr hrl hrp hat
  go_enter Try.func7, Try.ntmps7
  go_wp2_with fail
  refine (poolsAwake_any H _).mono ?_
  rintro e w1 ⟨rfl, hb1⟩
  have hBz := HB.out.size
  have HB2 := Lib.hid (HB.out.trans (hb1.mono hBz))
  clear HB hBz
  have HB := HB2
  clear HB2
  have FP2 := Lib.hid (FP.out.next hb1)
  clear FP
  have FP := FP2
  clear FP2
  clear hb1
  go_wp2_with fail
  have hbL2 := Below.alloc (Below.refl w1.heap.size w1) (Nat.le_refl _) (.cells #[.slice A n c] 26)
  have FL' := Lib.hid (show PAsk (w1.alloc (.cells #[.slice A n c] 26)) (some ⟨w1.heap.size, 0, none⟩) 1 1 [p] from ⟨RSS_lit1 _ FP.out HN.out HC.out HM.out, (fun e => by cases e), Nat.le_refl _, by omega, HP1.out⟩)
  have hBz := HB.out.size
  have HB2 := Lib.hid (HB.out.trans (hbL2.mono hBz))
  clear HB hBz
  have HB := HB2
  clear HB2
  have FP2 := Lib.hid (FP.out.next hbL2)
  clear FP
  have FP := FP2
  clear FP2
  clear hbL2
  have FL := FL'
  clear FL'
  have hbL3 := Below.alloc (Below.refl (w1.alloc (.cells #[.slice A n c] 26)).heap.size (w1.alloc (.cells #[.slice A n c] 26))) (Nat.le_refl _) (.cells #[.int .i64 k] 3)
  have hBz := HB.out.size
  have HB2 := Lib.hid (HB.out.trans (hbL3.mono hBz))
  clear HB hBz
  have HB := HB2
  clear HB2
  have FP2 := Lib.hid (FP.out.next hbL3)
  clear FP
  have FP := FP2
  clear FP2
  have FL2 := Lib.hid (FL.out.next hbL3)
  clear FL
  have FL := FL2
  clear FL2
  clear hbL3
  have N1 : Hid (NAsk ((w1.alloc (.cells #[.slice A n c] 26)).alloc (.cells #[.int .i64 k] 3)) (some ⟨w1.heap.size + 1, 0, none⟩) 1 [k]) := Lib.hid (by rw [show w1.heap.size + 1 = (w1.alloc (.cells #[.slice A n c] 26)).heap.size by simp]; exact ⟨(RI_lit1 (w1.alloc (.cells #[.slice A n c] 26)) (k) _).more (by simp), by omega, by intro x hx; simp at hx; unfold I64; omega⟩)
  refine (calls_ppost (H.take _ _ _ _ _ _ _ a b _ _ FL.out N1.out H_a.out H_b.out) HCH.out).mono ?_
  rintro e w4 ⟨⟨A4, c4, rfl, hr4, hnil4, hc4⟩, hb4⟩
  have hBz := HB.out.size
  have HB2 := Lib.hid (HB.out.trans (hb4.mono hBz))
  clear HB hBz
  have HB := HB2
  clear HB2
  have FP2 := Lib.hid (FP.out.next hb4)
  clear FP
  have FP := FP2
  clear FP2
  have FL2 := Lib.hid (FL.out.next hb4)
  clear FL
  have FL := FL2
  clear FL2
  have N12 := Lib.hid (N1.out.next hb4)
  clear N1
  have N1 := N12
  clear N12
  clear hb4
  have F1 := Lib.hid (show PAsk w4 A4 _ c4 _ from ⟨hr4, hnil4, hc4, by simp, HQ1.out⟩)
  clear hr4 hnil4 hc4
  clear N1
  go_wp2_with fail
  refine (calls_spost (HS.take _ _ _ _ a b k _ FP.out HN.out HC.out HL.out H_a.out H_b.out H_k.out) HTK.out).mono ?_
  rintro e w5 ⟨⟨A5, c5, rfl, hr5, hnil5, hc5⟩, hb5⟩
  have hBz := HB.out.size
  have HB2 := Lib.hid (HB.out.trans (hb5.mono hBz))
  clear HB hBz
  have HB := HB2
  clear HB2
  have FP2 := Lib.hid (FP.out.next hb5)
  clear FP
  have FP := FP2
  clear FP2
  have FL2 := Lib.hid (FL.out.next hb5)
  clear FL
  have FL := FL2
  clear FL2
  have F12 := Lib.hid (F1.out.next hb5)
  clear F1
  have F1 := F12
  clear F12
  clear hb5
  have F2 := Lib.hid hr5
  have F2c := Lib.hid hc5
  have F2z := Lib.hid hnil5
  clear hr5 hc5 hnil5
  go_wp2_with fail
  have hbL6 := Below.alloc (Below.refl w5.heap.size w5) (Nat.le_refl _) (.cells #[.int .i64 k] 3)
  have hBz := HB.out.size
  have HB2 := Lib.hid (HB.out.trans (hbL6.mono hBz))
  clear HB hBz
  have HB := HB2
  clear HB2
  have FP2 := Lib.hid (FP.out.next hbL6)
  clear FP
  have FP := FP2
  clear FP2
  have FL2 := Lib.hid (FL.out.next hbL6)
  clear FL
  have FL := FL2
  clear FL2
  have F12 := Lib.hid (F1.out.next hbL6)
  clear F1
  have F1 := F12
  clear F12
  have F22 := Lib.hid (F2.out.next hbL6)
  clear F2
  have F2 := F22
  clear F22
  clear hbL6
  have N2 : Hid (NAsk (w5.alloc (.cells #[.int .i64 k] 3)) (some ⟨w5.heap.size, 0, none⟩) 1 [k]) := Lib.hid ⟨(RI_lit1 w5 (k) _).more (by simp), by omega, by intro x hx; simp at hx; unfold I64; omega⟩
  refine (calls_first (H.first _ _ _ _ _ _ _ a b _ _ FL.out N2.out H_a.out H_b.out) HFI.out).mono ?_
  rintro e w7 ⟨rfl, hb7⟩
  have hBz := HB.out.size
  have HB2 := Lib.hid (HB.out.trans (hb7.mono hBz))
  clear HB hBz
  have HB := HB2
  clear HB2
  have FP2 := Lib.hid (FP.out.next hb7)
  clear FP
  have FP := FP2
  clear FP2
  have FL2 := Lib.hid (FL.out.next hb7)
  clear FL
  have FL := FL2
  clear FL2
  have F12 := Lib.hid (F1.out.next hb7)
  clear F1
  have F1 := F12
  clear F12
  have F22 := Lib.hid (F2.out.next hb7)
  clear F2
  have F2 := F22
  clear F22
  have N22 := Lib.hid (N2.out.next hb7)
  clear N2
  have N2 := N22
  clear N22
  clear hb7
  clear N2
  go_wp2_with fail
  refine (calls_first (HS.first _ _ _ _ a b k _ FP.out HL.out H_a.out H_b.out H_k.out) HFR.out).mono ?_
  rintro e w8 ⟨rfl, hb8⟩
  have hBz := HB.out.size
  have HB2 := Lib.hid (HB.out.trans (hb8.mono hBz))
  clear HB hBz
  have HB := HB2
  clear HB2
  have FP2 := Lib.hid (FP.out.next hb8)
  clear FP
  have FP := FP2
  clear FP2
  have FL2 := Lib.hid (FL.out.next hb8)
  clear FL
  have FL := FL2
  clear FL2
  have F12 := Lib.hid (F1.out.next hb8)
  clear F1
  have F1 := F12
  clear F12
  have F22 := Lib.hid (F2.out.next hb8)
  clear F2
  have F2 := F22
  clear F22
  clear hb8
  go_wp2_with fail
  refine (calls_bool (H.right _ _ _ _ _ FL.out) HRL.out).mono ?_
  rintro e w9 ⟨rfl, hb9⟩
  have hBz := HB.out.size
  have HB2 := Lib.hid (HB.out.trans (hb9.mono hBz))
  clear HB hBz
  have HB := HB2
  clear HB2
  have FP2 := Lib.hid (FP.out.next hb9)
  clear FP
  have FP := FP2
  clear FP2
  have FL2 := Lib.hid (FL.out.next hb9)
  clear FL
  have FL := FL2
  clear FL2
  have F12 := Lib.hid (F1.out.next hb9)
  clear F1
  have F1 := F12
  clear F12
  have F22 := Lib.hid (F2.out.next hb9)
  clear F2
  have F2 := F22
  clear F22
  clear hb9
  go_wp2_with fail
  refine (calls_bool (HS.right _ _ _ _ _ FP.out HL.out) HRP.out).mono ?_
  rintro e w10 ⟨rfl, hb10⟩
  have hBz := HB.out.size
  have HB2 := Lib.hid (HB.out.trans (hb10.mono hBz))
  clear HB hBz
  have HB := HB2
  clear HB2
  have FP2 := Lib.hid (FP.out.next hb10)
  clear FP
  have FP := FP2
  clear FP2
  have FL2 := Lib.hid (FL.out.next hb10)
  clear FL
  have FL := FL2
  clear FL2
  have F12 := Lib.hid (F1.out.next hb10)
  clear F1
  have F1 := F12
  clear F12
  have F22 := Lib.hid (F2.out.next hb10)
  clear F2
  have F2 := F22
  clear F22
  clear hb10
  go_wp2_with fail
  refine (calls_bool (HS.right _ _ _ _ _ FP.out HL.out) HRP.out).mono ?_
  rintro e w11 ⟨rfl, hb11⟩
  have hBz := HB.out.size
  have HB2 := Lib.hid (HB.out.trans (hb11.mono hBz))
  clear HB hBz
  have HB := HB2
  clear HB2
  have FP2 := Lib.hid (FP.out.next hb11)
  clear FP
  have FP := FP2
  clear FP2
  have FL2 := Lib.hid (FL.out.next hb11)
  clear FL
  have FL := FL2
  clear FL2
  have F12 := Lib.hid (F1.out.next hb11)
  clear F1
  have F1 := F12
  clear F12
  have F22 := Lib.hid (F2.out.next hb11)
  clear F2
  have F2 := F22
  clear F22
  clear hb11
  go_wp2_with fail
  refine (calls_ipost (H.at_ _ _ _ _ a _ FL.out H_a.out) HAT.out).mono ?_
  rintro e w12 ⟨⟨A12, c12, rfl, hr12, hnil12, hc12⟩, hb12⟩
  have hBz := HB.out.size
  have HB2 := Lib.hid (HB.out.trans (hb12.mono hBz))
  clear HB hBz
  have HB := HB2
  clear HB2
  have FP2 := Lib.hid (FP.out.next hb12)
  clear FP
  have FP := FP2
  clear FP2
  have FL2 := Lib.hid (FL.out.next hb12)
  clear FL
  have FL := FL2
  clear FL2
  have F12 := Lib.hid (F1.out.next hb12)
  clear F1
  have F1 := F12
  clear F12
  have F22 := Lib.hid (F2.out.next hb12)
  clear F2
  have F2 := F22
  clear F22
  clear hb12
  have F3 := Lib.hid hr12
  clear hr12 hnil12 hc12
  go_wp2
  go_ret
  exact ⟨rfl, HB.out⟩

set_option maxRecDepth 100000 in
set_option maxHeartbeats 4000000 in
theorem poolsOne_good (HS : StepOk) (H : PoolsOk) (A : Option Addr) (n c : Nat) (p : List (Int × Int)) (a b k : Int) (w : World) (hr : RS w w.heap.size A n p) (hnil : A = none → c = 0) (hnc : n ≤ c) (hn2 : n ≤ 100) (ha : I64 a) (hb : I64 b) (hk : I64 k) (q : List (Int × Int)) (t : Int) (o : Bool) (hql : q.length ≤ 1100) (er x : Int) (htk : takeR p a b k = (q, er)) (hch : changePP false [p] a b [k] = ([q], er)) (hfi : firstPP [p] a b [k] = (t, o)) (hfr : firstR p a b k = (t, o)) (hrl : rightPP [p] = true) (hrp : rightP p = true) (hat : atPP [p] a = [x]) (hax : atR p a = x) :
    Calls Try.prog 7 #[.slice A n c, .int .i64 a, .int .i64 b, .int .i64 k] w fun e w' => e = .returned (.bool true) ∧ Below w.heap.size w w' := by
  have FP := Lib.hid hr
  have HN := Lib.hid hnil
  have HC := Lib.hid hnc
  have HL : Hid (n ≤ 2000) := Lib.hid (by omega)
  have HM : Hid (n ≤ maxLen) := Lib.hid (by unfold maxLen; omega)
  have HP1 : Hid (∀ j, j < 1 → (([p] : List (List (Int × Int))).getD j []).length ≤ 1100) := Lib.hid (fun j hj => by have : j = 0 := (by omega); subst this; show p.length ≤ 1100; have := hr.1; omega)
  have HQ1 : Hid (∀ j, j < ([q] : List (List (Int × Int))).length → (([q] : List (List (Int × Int))).getD j []).length ≤ 1100) := Lib.hid (fun j hj => by have : j = 0 := (by simpa using hj); subst this; exact hql)
  have HB := Lib.hid (Below.refl w.heap.size w)
  have H_a := Lib.hid ha
  have ha1 := ha.1
  have ha2 := ha.2
  have H_b := Lib.hid hb
  have hb1 := hb.1
  have hb2 := hb.2
  have H_k := Lib.hid hk
  have hk1 := hk.1
  have hk2 := hk.2
  have HTK := Lib.hid htk
  have HCH := Lib.hid hch
  have HFI := Lib.hid hfi
  have HFR := Lib.hid hfr
  have HRL := Lib.hid hrl
  have HRP := Lib.hid hrp
  have HAT := Lib.hid hat
  have HAX := Lib.hid hax
  clear hr hnil hnc hql ha hb hk htk hch hfi hfr hrl hrp hat hax
  go_enter Try.func7, Try.ntmps7
  go_wp2_with fail
  refine (poolsAwake_any H _).mono ?_
  rintro e w1 ⟨rfl, hb1⟩
  have hBz := HB.out.size
  have HB2 := Lib.hid (HB.out.trans (hb1.mono hBz))
  clear HB hBz
  have HB := HB2
  clear HB2
  have FP2 := Lib.hid (FP.out.next hb1)
  clear FP
  have FP := FP2
  clear FP2
  clear hb1
  go_wp2_with fail
  have hbL2 := Below.alloc (Below.refl w1.heap.size w1) (Nat.le_refl _) (.cells #[.slice A n c] 26)
  have FL' := Lib.hid (show PAsk (w1.alloc (.cells #[.slice A n c] 26)) (some ⟨w1.heap.size, 0, none⟩) 1 1 [p] from ⟨RSS_lit1 _ FP.out HN.out HC.out HM.out, (fun e => by cases e), Nat.le_refl _, by omega, HP1.out⟩)
  have hBz := HB.out.size
  have HB2 := Lib.hid (HB.out.trans (hbL2.mono hBz))
  clear HB hBz
  have HB := HB2
  clear HB2
  have FP2 := Lib.hid (FP.out.next hbL2)
  clear FP
  have FP := FP2
  clear FP2
  clear hbL2
  have FL := FL'
  clear FL'
  have hbL3 := Below.alloc (Below.refl (w1.alloc (.cells #[.slice A n c] 26)).heap.size (w1.alloc (.cells #[.slice A n c] 26))) (Nat.le_refl _) (.cells #[.int .i64 k] 3)
  have hBz := HB.out.size
  have HB2 := Lib.hid (HB.out.trans (hbL3.mono hBz))
  clear HB hBz
  have HB := HB2
  clear HB2
  have FP2 := Lib.hid (FP.out.next hbL3)
  clear FP
  have FP := FP2
  clear FP2
  have FL2 := Lib.hid (FL.out.next hbL3)
  clear FL
  have FL := FL2
  clear FL2
  clear hbL3
  have N1 : Hid (NAsk ((w1.alloc (.cells #[.slice A n c] 26)).alloc (.cells #[.int .i64 k] 3)) (some ⟨w1.heap.size + 1, 0, none⟩) 1 [k]) := Lib.hid (by rw [show w1.heap.size + 1 = (w1.alloc (.cells #[.slice A n c] 26)).heap.size by simp]; exact ⟨(RI_lit1 (w1.alloc (.cells #[.slice A n c] 26)) (k) _).more (by simp), by omega, by intro x hx; simp at hx; unfold I64; omega⟩)
  refine (calls_ppost (H.take _ _ _ _ _ _ _ a b _ _ FL.out N1.out H_a.out H_b.out) HCH.out).mono ?_
  rintro e w4 ⟨⟨A4, c4, rfl, hr4, hnil4, hc4⟩, hb4⟩
  have hBz := HB.out.size
  have HB2 := Lib.hid (HB.out.trans (hb4.mono hBz))
  clear HB hBz
  have HB := HB2
  clear HB2
  have FP2 := Lib.hid (FP.out.next hb4)
  clear FP
  have FP := FP2
  clear FP2
  have FL2 := Lib.hid (FL.out.next hb4)
  clear FL
  have FL := FL2
  clear FL2
  have N12 := Lib.hid (N1.out.next hb4)
  clear N1
  have N1 := N12
  clear N12
  clear hb4
  have F1 := Lib.hid (show PAsk w4 A4 _ c4 _ from ⟨hr4, hnil4, hc4, by simp, HQ1.out⟩)
  clear hr4 hnil4 hc4
  clear N1
  go_wp2_with fail
  refine (calls_spost (HS.take _ _ _ _ a b k _ FP.out HN.out HC.out HL.out H_a.out H_b.out H_k.out) HTK.out).mono ?_
  rintro e w5 ⟨⟨A5, c5, rfl, hr5, hnil5, hc5⟩, hb5⟩
  have hBz := HB.out.size
  have HB2 := Lib.hid (HB.out.trans (hb5.mono hBz))
  clear HB hBz
  have HB := HB2
  clear HB2
  have FP2 := Lib.hid (FP.out.next hb5)
  clear FP
  have FP := FP2
  clear FP2
  have FL2 := Lib.hid (FL.out.next hb5)
  clear FL
  have FL := FL2
  clear FL2
  have F12 := Lib.hid (F1.out.next hb5)
  clear F1
  have F1 := F12
  clear F12
  clear hb5
  have F2 := Lib.hid hr5
  have F2c := Lib.hid hc5
  have F2z := Lib.hid hnil5
  clear hr5 hc5 hnil5
  go_wp2_with fail
  have hbL6 := Below.alloc (Below.refl w5.heap.size w5) (Nat.le_refl _) (.cells #[.int .i64 k] 3)
  have hBz := HB.out.size
  have HB2 := Lib.hid (HB.out.trans (hbL6.mono hBz))
  clear HB hBz
  have HB := HB2
  clear HB2
  have FP2 := Lib.hid (FP.out.next hbL6)
  clear FP
  have FP := FP2
  clear FP2
  have FL2 := Lib.hid (FL.out.next hbL6)
  clear FL
  have FL := FL2
  clear FL2
  have F12 := Lib.hid (F1.out.next hbL6)
  clear F1
  have F1 := F12
  clear F12
  have F22 := Lib.hid (F2.out.next hbL6)
  clear F2
  have F2 := F22
  clear F22
  clear hbL6
  have N2 : Hid (NAsk (w5.alloc (.cells #[.int .i64 k] 3)) (some ⟨w5.heap.size, 0, none⟩) 1 [k]) := Lib.hid ⟨(RI_lit1 w5 (k) _).more (by simp), by omega, by intro x hx; simp at hx; unfold I64; omega⟩
  refine (calls_first (H.first _ _ _ _ _ _ _ a b _ _ FL.out N2.out H_a.out H_b.out) HFI.out).mono ?_
  rintro e w7 ⟨rfl, hb7⟩
  have hBz := HB.out.size
  have HB2 := Lib.hid (HB.out.trans (hb7.mono hBz))
  clear HB hBz
  have HB := HB2
  clear HB2
  have FP2 := Lib.hid (FP.out.next hb7)
  clear FP
  have FP := FP2
  clear FP2
  have FL2 := Lib.hid (FL.out.next hb7)
  clear FL
  have FL := FL2
  clear FL2
  have F12 := Lib.hid (F1.out.next hb7)
  clear F1
  have F1 := F12
  clear F12
  have F22 := Lib.hid (F2.out.next hb7)
  clear F2
  have F2 := F22
  clear F22
  have N22 := Lib.hid (N2.out.next hb7)
  clear N2
  have N2 := N22
  clear N22
  clear hb7
  clear N2
  go_wp2_with fail
  refine (calls_first (HS.first _ _ _ _ a b k _ FP.out HL.out H_a.out H_b.out H_k.out) HFR.out).mono ?_
  rintro e w8 ⟨rfl, hb8⟩
  have hBz := HB.out.size
  have HB2 := Lib.hid (HB.out.trans (hb8.mono hBz))
  clear HB hBz
  have HB := HB2
  clear HB2
  have FP2 := Lib.hid (FP.out.next hb8)
  clear FP
  have FP := FP2
  clear FP2
  have FL2 := Lib.hid (FL.out.next hb8)
  clear FL
  have FL := FL2
  clear FL2
  have F12 := Lib.hid (F1.out.next hb8)
  clear F1
  have F1 := F12
  clear F12
  have F22 := Lib.hid (F2.out.next hb8)
  clear F2
  have F2 := F22
  clear F22
  clear hb8
  go_wp2_with fail
  refine (calls_bool (H.right _ _ _ _ _ FL.out) HRL.out).mono ?_
  rintro e w9 ⟨rfl, hb9⟩
  have hBz := HB.out.size
  have HB2 := Lib.hid (HB.out.trans (hb9.mono hBz))
  clear HB hBz
  have HB := HB2
  clear HB2
  have FP2 := Lib.hid (FP.out.next hb9)
  clear FP
  have FP := FP2
  clear FP2
  have FL2 := Lib.hid (FL.out.next hb9)
  clear FL
  have FL := FL2
  clear FL2
  have F12 := Lib.hid (F1.out.next hb9)
  clear F1
  have F1 := F12
  clear F12
  have F22 := Lib.hid (F2.out.next hb9)
  clear F2
  have F2 := F22
  clear F22
  clear hb9
  go_wp2_with fail
  refine (calls_bool (HS.right _ _ _ _ _ FP.out HL.out) HRP.out).mono ?_
  rintro e w10 ⟨rfl, hb10⟩
  have hBz := HB.out.size
  have HB2 := Lib.hid (HB.out.trans (hb10.mono hBz))
  clear HB hBz
  have HB := HB2
  clear HB2
  have FP2 := Lib.hid (FP.out.next hb10)
  clear FP
  have FP := FP2
  clear FP2
  have FL2 := Lib.hid (FL.out.next hb10)
  clear FL
  have FL := FL2
  clear FL2
  have F12 := Lib.hid (F1.out.next hb10)
  clear F1
  have F1 := F12
  clear F12
  have F22 := Lib.hid (F2.out.next hb10)
  clear F2
  have F2 := F22
  clear F22
  clear hb10
  go_wp2_with fail
  refine (calls_bool (HS.right _ _ _ _ _ FP.out HL.out) HRP.out).mono ?_
  rintro e w11 ⟨rfl, hb11⟩
  have hBz := HB.out.size
  have HB2 := Lib.hid (HB.out.trans (hb11.mono hBz))
  clear HB hBz
  have HB := HB2
  clear HB2
  have FP2 := Lib.hid (FP.out.next hb11)
  clear FP
  have FP := FP2
  clear FP2
  have FL2 := Lib.hid (FL.out.next hb11)
  clear FL
  have FL := FL2
  clear FL2
  have F12 := Lib.hid (F1.out.next hb11)
  clear F1
  have F1 := F12
  clear F12
  have F22 := Lib.hid (F2.out.next hb11)
  clear F2
  have F2 := F22
  clear F22
  clear hb11
  go_wp2_with fail
  refine (calls_ipost (H.at_ _ _ _ _ a _ FL.out H_a.out) HAT.out).mono ?_
  rintro e w12 ⟨⟨A12, c12, rfl, hr12, hnil12, hc12⟩, hb12⟩
  have hBz := HB.out.size
  have HB2 := Lib.hid (HB.out.trans (hb12.mono hBz))
  clear HB hBz
  have HB := HB2
  clear HB2
  have FP2 := Lib.hid (FP.out.next hb12)
  clear FP
  have FP := FP2
  clear FP2
  have FL2 := Lib.hid (FL.out.next hb12)
  clear FL
  have FL := FL2
  clear FL2
  have F12 := Lib.hid (F1.out.next hb12)
  clear F1
  have F1 := F12
  clear F12
  have F22 := Lib.hid (F2.out.next hb12)
  clear F2
  have F2 := F22
  clear F22
  clear hb12
  have F3 := Lib.hid hr12
  clear hr12 hnil12 hc12
  obtain ⟨b1, o1, A', m, c', rfl, hB1, hc1, hr', hnil', hnc', hm⟩ := F1.out.reads.one (k := 0) (by simp)
  obtain ⟨b3, o3, rfl, hB3, hc3⟩ := F3.out.one (k := 0) (by simp)
  have HRq := Lib.hid (show RS w12 w12.heap.size A' m q from hr')
  have hmq : m ≤ 1100 := by have h1 := HRq.out.1; have h2 := HQ1.out 0 (by simp); rw [← h1]; exact h2
  clear hr' hnil' hnc' hm
  simp only [Nat.add_zero] at hc1 hc3
  have hc3' : w12.cell? ⟨b3, o3, none⟩ = some (.int .i64 x) := hc3
  clear hc3
  have HSAME := Lib.hid (s_same (w := w12.drew) (c := c') (c' := c5) (A := A') (A' := A5) HRq.out F2.out (by omega) (by have h2 := HQ1.out 0 (by simp); exact Nat.le_trans h2 (by omega)) rfl)
  have HK1 : Hid (∀ wx, Below w12.drew.heap.size w12.drew wx → wx.cell? ⟨b1, o1, none⟩ = some (.slice A' m c') ∧ wx.cell? ⟨b3, o3, none⟩ = some (.int .i64 x)) :=
    Lib.hid (fun wx hb => ⟨(hb.cell (p := ⟨b1, o1, none⟩) hB1).trans hc1, (hb.cell (p := ⟨b3, o3, none⟩) hB3).trans hc3'⟩)
  have HEQ : ((er : Int) == er) = true := by simp
  go_wp2_with fail
  go_region_held3 (fun w' => w'.cell? ⟨b1, o1, none⟩ = some (.slice A' m c') ∧ w'.cell? ⟨b3, o3, none⟩ = some (.int .i64 x))
    (first | go_keep | exact HK1.out _ HBS.out | exact HK1.out _ HBT.out)
    (first | (go_at_call 28; refine (HSAME.out).mono ?_; rintro e ws ⟨rfl, hbs⟩; have HBS := Lib.hid hbs; clear hbs) | (go_at_call 29; refine (calls_int (HS.at_ _ _ _ _ a _ ((show RS w12.drew w12.drew.heap.size A n p from FP.out).next HBS.out) HL.out H_a.out) HAX.out).mono ?_; rintro e wt ⟨rfl, hbt⟩; have HBT := Lib.hid (HBS.out.trans (hbt.mono HBS.out.size)); clear hbt))
  go_wp2
  go_ret
  exact ⟨rfl, HB.out.drew.trans (HBT.out.mono HB.out.size)⟩

theorem poolsOne_walk (HS : StepOk) (H : PoolsOk) (A : Option Addr) (n c : Nat) (p : List (Int × Int)) (a b k : Int) (w : World) (hr : RS w w.heap.size A n p) (hnil : A = none → c = 0) (hnc : n ≤ c) (hn : n ≤ maxLen) (ha : I64 a) (hb : I64 b) (hk : I64 k) :
    Calls Try.prog 7 #[.slice A n c, .int .i64 a, .int .i64 b, .int .i64 k] w fun e w' => e = .returned (.bool true) ∧ Below w.heap.size w w' := by
  by_cases h : 100 < n
  · exact poolsOne_far H A n c a b k w hn h
  · have hpl : p.length ≤ 100 := by have := hr.1; omega
    obtain ⟨⟨q, er⟩, htk⟩ : ∃ r, takeR p a b k = r := ⟨_, rfl⟩
    obtain ⟨⟨t, o⟩, hfr⟩ : ∃ r, firstR p a b k = r := ⟨_, rfl⟩
    have hfi := (one_first (p := p) (a := a) (l := b) (k := k)).trans hfr
    have hql : q.length ≤ 1100 := by
      have h1 := takeR_len p a b k
      rw [htk] at h1
      have h2 : q.length ≤ p.length ∨ q.length ≤ 1024 := h1
      omega
    cases hrp : rightP p with
    | false =>
      have hm : mayP p a b = false := by unfold mayP; rw [hrp]; rfl
      have e : takeR p a b k = (p, 1) := by unfold takeR; rw [hm]; rfl
      rw [e] at htk
      injection htk with e1 e2
      subst e1 e2
      exact poolsOne_bad HS H A n c p a b k w hr hnil hnc (by omega) ha hb hk p t o hql e (one_take_bad hrp) hfi hfr (by rw [one_right, hrp]) hrp (by unfold atPP; rw [if_neg (by rw [one_right, hrp]; simp)])
    | true =>
      exact poolsOne_good HS H A n c p a b k w hr hnil hnc (by omega) ha hb hk q t o hql er (atR p a) htk (by rw [one_take hpl hrp, htk]) hfi hfr (by rw [one_right, hrp]) hrp (by unfold atPP; rw [if_pos (by rw [one_right, hrp])]; rfl) rfl

end Go.Proofs.Ytkhnlbkghjjdnaa
