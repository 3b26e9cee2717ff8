/- The statement PoolsBack, as a walk over the contracts: of any pools, span, amounts and time the call returns true. -/
import Derived.Test.YtkhnlbkghjjdnaaPoolsAwake
import Derived.Test.YtkhnlbkghjjdnaaPoolsLaws
namespace Go.Proofs.Ytkhnlbkghjjdnaa
open Go.RowKit

set_option maxRecDepth 100000 in
set_option maxHeartbeats 4000000 in
theorem poolsBack_far (H : PoolsOk) (A : Option Addr) (n c : Nat) (A2 : Option Addr) (n2 c2 : Nat) (ls : List (List (Int × Int))) (a b t : Int) (w : World) (hr : RSS w w.heap.size A n ls) (hn : n ≤ maxLen) (hn2 : n2 ≤ maxLen) (hf : shortB ls = false ∨ 10 < n2) :
    Calls Try.prog 8 #[.slice A n c, .int .i64 a, .int .i64 b, .slice A2 n2 c2, .int .i64 t] w fun e w' => e = .returned (.bool true) ∧ Below w.heap.size w w' := by
  have HR := Lib.hid hr
  have HN := Lib.hid hn
  unfold maxLen at hn2
  cases hs : shortB ls with
  | false =>
    have HS := Lib.hid hs
    clear hs hf hr hn
    go_enter Try.func8, Try.ntmps8
    go_wp2_with fail
    refine (poolsAwake_any H _).mono ?_
    rintro e w1 ⟨rfl, hb1⟩
    have HB1 := Lib.hid hb1
    clear hb1
    go_wp2_with fail
    refine (calls_bool (short_any _ _ _ ls _ (HR.out.next HB1.out) HN.out) HS.out).mono ?_
    rintro e w2 ⟨rfl, hb2⟩
    have HB2 := Lib.hid (HB1.out.trans (hb2.mono HB1.out.size))
    clear hb2
    go_wp2
    go_ret
    exact ⟨rfl, HB2.out⟩
  | true =>
    have HS := Lib.hid hs
    have h10 : 10 < n2 := by rcases hf with h | h; (rw [h] at hs; cases hs); exact h
    clear hs hf hr hn
    go_enter Try.func8, Try.ntmps8
    go_wp2_with fail
    refine (poolsAwake_any H _).mono ?_
    rintro e w1 ⟨rfl, hb1⟩
    have HB1 := Lib.hid hb1
    clear hb1
    go_wp2_with fail
    refine (calls_bool (short_any _ _ _ ls _ (HR.out.next HB1.out) HN.out) HS.out).mono ?_
    rintro e w2 ⟨rfl, hb2⟩
    have HB2 := Lib.hid (HB1.out.trans (hb2.mono HB1.out.size))
    clear hb2
    go_wp2
    go_ret
    exact ⟨rfl, HB2.out⟩
set_option maxRecDepth 100000 in
set_option maxHeartbeats 4000000 in
theorem poolsBack_no (H : PoolsOk) (A : Option Addr) (n c : Nat) (A2 : Option Addr) (n2 c2 : Nat) (ls : List (List (Int × Int))) (ns : List Int) (a b t : Int) (w : World) (hp : PAsk w A n c ls) (hq : NAsk w A2 n2 ns) (hs : shortB ls = true) (ha : I64 a) (hb : I64 b) (ht' : I64 t) (er : Int) (ht : changePP false ls a b ns = (ls, er)) (her : (er != 0) = true) :
    Calls Try.prog 8 #[.slice A n c, .int .i64 a, .int .i64 b, .slice A2 n2 c2, .int .i64 t] w fun e w' => e = .returned (.bool true) ∧ Below w.heap.size w w' := by
  have FP := Lib.hid hp
  have FN := Lib.hid hq
  have HS := Lib.hid hs
  have hk10 := hp.kinds
  have hf10 := hq.few
  have HB := Lib.hid (Below.refl w.heap.size w)
  have H_a := Lib.hid ha
  have ha1 := ha.1
  have ha2 := ha.2
  have H_b := Lib.hid hb
  have hb1 := hb.1
  have hb2 := hb.2
  have H_t := Lib.hid ht'
  have ht1 := ht'.1
  have ht2 := ht'.2
  have HT := Lib.hid ht
  clear hp hq hs ha hb ht' ht
  go_enter Try.func8, Try.ntmps8
  go_wp2_with fail
  refine (poolsAwake_any H _).mono ?_
  rintro e w1 ⟨rfl, hb1⟩
  have hBz := HB.out.size
  have HB2 := Lib.hid (HB.out.trans (hb1.mono hBz))
  clear HB hBz
  have HB := HB2
  clear HB2
  have FP2 := Lib.hid (FP.out.next hb1)
  clear FP
  have FP := FP2
  clear FP2
  have FN2 := Lib.hid (FN.out.next hb1)
  clear FN
  have FN := FN2
  clear FN2
  clear hb1
  go_wp2_with fail
  refine (calls_bool (short_any _ _ _ ls _ FP.out.reads (ml10 FP.out.kinds)) HS.out).mono ?_
  rintro e w2 ⟨rfl, hb2⟩
  have hBz := HB.out.size
  have HB2 := Lib.hid (HB.out.trans (hb2.mono hBz))
  clear HB hBz
  have HB := HB2
  clear HB2
  have FP2 := Lib.hid (FP.out.next hb2)
  clear FP
  have FP := FP2
  clear FP2
  have FN2 := Lib.hid (FN.out.next hb2)
  clear FN
  have FN := FN2
  clear FN2
  clear hb2
  go_wp2_with fail
  refine (calls_ppost (H.take _ _ _ _ _ _ _ a b _ _ FP.out FN.out H_a.out H_b.out) HT.out).mono ?_
  rintro e w3 ⟨⟨A3, c3, rfl, hr3, hnil3, hc3⟩, hb3⟩
  have hBz := HB.out.size
  have HB2 := Lib.hid (HB.out.trans (hb3.mono hBz))
  clear HB hBz
  have HB := HB2
  clear HB2
  have FP2 := Lib.hid (FP.out.next hb3)
  clear FP
  have FP := FP2
  clear FP2
  have FN2 := Lib.hid (FN.out.next hb3)
  clear FN
  have FN := FN2
  clear FN2
  clear hb3
  have F1 := Lib.hid (show PAsk w3 A3 _ c3 _ from ⟨hr3, hnil3, hc3, by have := FP.out.reads.len; have := FP.out.kinds; omega, by have := FP.out.reads.len; rw [this]; exact FP.out.steps⟩)
  clear hr3 hnil3 hc3
  go_wp2_with fail
  refine (r_same F1.out FP.out.reads rfl).mono ?_
  rintro e w4 ⟨rfl, hb4⟩
  have hBz := HB.out.size
  have HB2 := Lib.hid (HB.out.trans (hb4.mono hBz))
  clear HB hBz
  have HB := HB2
  clear HB2
  have FP2 := Lib.hid (FP.out.next hb4)
  clear FP
  have FP := FP2
  clear FP2
  have FN2 := Lib.hid (FN.out.next hb4)
  clear FN
  have FN := FN2
  clear FN2
  have F12 := Lib.hid (F1.out.next hb4)
  clear F1
  have F1 := F12
  clear F12
  clear hb4
  go_wp2
  go_ret
  exact ⟨rfl, HB.out⟩

set_option maxRecDepth 100000 in
set_option maxHeartbeats 4000000 in
theorem poolsBack_notime (H : PoolsOk) (A : Option Addr) (n c : Nat) (A2 : Option Addr) (n2 c2 : Nat) (ls : List (List (Int × Int))) (ns : List Int) (a b t : Int) (w : World) (hp : PAsk w A n c ls) (hq : NAsk w A2 n2 ns) (hs : shortB ls = true) (ha : I64 a) (hb : I64 b) (ht' : I64 t) (qs : List (List (Int × Int))) (was now : List Int) (ht : changePP false ls a b ns = (qs, 0)) (hqm : qs.length = ls.length) (hqs : ∀ j, j < qs.length → (qs.getD j []).length ≤ 1100) (hgv : changePP true qs a b ns = (ls, 0)) (hwa : atPP ls t = was) (hno : atPP qs t = now) (hwl : was.length = n) (hnl : now.length = was.length) (hnn : n2 = n) (htb : timeB t = false) (hw0 : 0 < was.length) :
    Calls Try.prog 8 #[.slice A n c, .int .i64 a, .int .i64 b, .slice A2 n2 c2, .int .i64 t] w fun e w' => e = .returned (.bool true) ∧ Below w.heap.size w w' := by
  have FP := Lib.hid hp
  have FN := Lib.hid hq
  have HS := Lib.hid hs
  have hk10 := hp.kinds
  have hf10 := hq.few
  have HB := Lib.hid (Below.refl w.heap.size w)
  have H_a := Lib.hid ha
  have ha1 := ha.1
  have ha2 := ha.2
  have H_b := Lib.hid hb
  have hb1 := hb.1
  have hb2 := hb.2
  have H_t := Lib.hid ht'
  have ht1 := ht'.1
  have ht2 := ht'.2
  have HT := Lib.hid ht
  have HQM := Lib.hid hqm
  have HQS := Lib.hid hqs
  have HGV := Lib.hid hgv
  have HWA := Lib.hid hwa
  have HNO := Lib.hid hno
  have HNL := Lib.hid hnl
  have HTB := Lib.hid htb
  clear hp hq hs ha hb ht' ht hqm hqs hgv hwa hno hnl htb
  subst hnn
  subst hwl
  go_enter Try.func8, Try.ntmps8
  go_wp2_with fail
  refine (poolsAwake_any H _).mono ?_
  rintro e w1 ⟨rfl, hb1⟩
  have hBz := HB.out.size
  have HB2 := Lib.hid (HB.out.trans (hb1.mono hBz))
  clear HB hBz
  have HB := HB2
  clear HB2
  have FP2 := Lib.hid (FP.out.next hb1)
  clear FP
  have FP := FP2
  clear FP2
  have FN2 := Lib.hid (FN.out.next hb1)
  clear FN
  have FN := FN2
  clear FN2
  clear hb1
  go_wp2_with fail
  refine (calls_bool (short_any _ _ _ ls _ FP.out.reads (ml10 FP.out.kinds)) HS.out).mono ?_
  rintro e w2 ⟨rfl, hb2⟩
  have hBz := HB.out.size
  have HB2 := Lib.hid (HB.out.trans (hb2.mono hBz))
  clear HB hBz
  have HB := HB2
  clear HB2
  have FP2 := Lib.hid (FP.out.next hb2)
  clear FP
  have FP := FP2
  clear FP2
  have FN2 := Lib.hid (FN.out.next hb2)
  clear FN
  have FN := FN2
  clear FN2
  clear hb2
  go_wp2_with fail
  refine (calls_ppost (H.take _ _ _ _ _ _ _ a b _ _ FP.out FN.out H_a.out H_b.out) HT.out).mono ?_
  rintro e w3 ⟨⟨A3, c3, rfl, hr3, hnil3, hc3⟩, hb3⟩
  have hBz := HB.out.size
  have HB2 := Lib.hid (HB.out.trans (hb3.mono hBz))
  clear HB hBz
  have HB := HB2
  clear HB2
  have FP2 := Lib.hid (FP.out.next hb3)
  clear FP
  have FP := FP2
  clear FP2
  have FN2 := Lib.hid (FN.out.next hb3)
  clear FN
  have FN := FN2
  clear FN2
  clear hb3
  have F1 := Lib.hid (show PAsk w3 A3 _ c3 _ from ⟨hr3, hnil3, hc3, by have := HQM.out; have := FP.out.reads.len; have := FP.out.kinds; omega, HQS.out⟩)
  clear hr3 hnil3 hc3
  go_wp2_with fail
  refine (calls_ppost (H.give _ _ _ _ _ _ _ a b _ _ F1.out FN.out H_a.out H_b.out) HGV.out).mono ?_
  rintro e w4 ⟨⟨A4, c4, rfl, hr4, hnil4, hc4⟩, hb4⟩
  have hBz := HB.out.size
  have HB2 := Lib.hid (HB.out.trans (hb4.mono hBz))
  clear HB hBz
  have HB := HB2
  clear HB2
  have FP2 := Lib.hid (FP.out.next hb4)
  clear FP
  have FP := FP2
  clear FP2
  have FN2 := Lib.hid (FN.out.next hb4)
  clear FN
  have FN := FN2
  clear FN2
  have F12 := Lib.hid (F1.out.next hb4)
  clear F1
  have F1 := F12
  clear F12
  clear hb4
  have F2 := Lib.hid (show PAsk w4 A4 _ c4 _ from ⟨hr4, hnil4, hc4, by have := FP.out.reads.len; have := FP.out.kinds; omega, by have := FP.out.reads.len; rw [this]; exact FP.out.steps⟩)
  clear hr4 hnil4 hc4
  go_wp2_with fail
  refine (calls_ipost (H.at_ _ _ _ _ t _ FP.out H_t.out) HWA.out).mono ?_
  rintro e w5 ⟨⟨A5, c5, rfl, hr5, hnil5, hc5⟩, hb5⟩
  have hBz := HB.out.size
  have HB2 := Lib.hid (HB.out.trans (hb5.mono hBz))
  clear HB hBz
  have HB := HB2
  clear HB2
  have FP2 := Lib.hid (FP.out.next hb5)
  clear FP
  have FP := FP2
  clear FP2
  have FN2 := Lib.hid (FN.out.next hb5)
  clear FN
  have FN := FN2
  clear FN2
  have F12 := Lib.hid (F1.out.next hb5)
  clear F1
  have F1 := F12
  clear F12
  have F22 := Lib.hid (F2.out.next hb5)
  clear F2
  have F2 := F22
  clear F22
  clear hb5
  have FW := Lib.hid hr5
  clear hr5 hnil5 hc5
  go_wp2_with fail
  refine (calls_ipost (H.at_ _ _ _ _ t _ F1.out H_t.out) HNO.out).mono ?_
  rintro e w6 ⟨⟨A6, c6, rfl, hr6, hnil6, hc6⟩, hb6⟩
  have hBz := HB.out.size
  have HB2 := Lib.hid (HB.out.trans (hb6.mono hBz))
  clear HB hBz
  have HB := HB2
  clear HB2
  have FP2 := Lib.hid (FP.out.next hb6)
  clear FP
  have FP := FP2
  clear FP2
  have FN2 := Lib.hid (FN.out.next hb6)
  clear FN
  have FN := FN2
  clear FN2
  have F12 := Lib.hid (F1.out.next hb6)
  clear F1
  have F1 := F12
  clear F12
  have F22 := Lib.hid (F2.out.next hb6)
  clear F2
  have F2 := F22
  clear F22
  have FW2 := Lib.hid (FW.out.next hb6)
  clear FW
  have FW := FW2
  clear FW2
  clear hb6
  have FX := Lib.hid hr6
  clear hr6 hnil6 hc6
  go_wp2_with fail
  go_loop [17] (fun i => i = .int .i64 0) (fun _ => 0)
  case atStart => rfl
  case round =>
    subst hrel
    have hnlb : ((now.length : Int) == (was.length : Int)) = true := by rw [HNL.out]; simp
    go_wp2_with fail
    refine (whenRight_b t _ _ HTB.out).mono ?_
    rintro e wz ⟨rfl, rfl⟩
    go_wp2_with fail
    refine (r_same F2.out FP.out.reads rfl).mono ?_
    rintro e w7 ⟨rfl, hb7⟩
    have hBz := HB.out.size
    have HB2 := Lib.hid (HB.out.trans (hb7.mono hBz))
    clear HB hBz
    have HB := HB2
    clear HB2
    have FP2 := Lib.hid (FP.out.next hb7)
    clear FP
    have FP := FP2
    clear FP2
    have FN2 := Lib.hid (FN.out.next hb7)
    clear FN
    have FN := FN2
    clear FN2
    have F12 := Lib.hid (F1.out.next hb7)
    clear F1
    have F1 := F12
    clear F12
    have F22 := Lib.hid (F2.out.next hb7)
    clear F2
    have F2 := F22
    clear F22
    have FW2 := Lib.hid (FW.out.next hb7)
    clear FW
    have FW := FW2
    clear FW2
    have FX2 := Lib.hid (FX.out.next hb7)
    clear FX
    have FX := FX2
    clear FX2
    clear hb7
    go_wp2
    go_ret
    exact ⟨rfl, HB.out⟩

set_option maxRecDepth 100000 in
set_option maxHeartbeats 4000000 in
theorem poolsBack_time (H : PoolsOk) (A : Option Addr) (n c : Nat) (A2 : Option Addr) (n2 c2 : Nat) (ls : List (List (Int × Int))) (ns : List Int) (a b t : Int) (w : World) (hp : PAsk w A n c ls) (hq : NAsk w A2 n2 ns) (hs : shortB ls = true) (ha : I64 a) (hb : I64 b) (ht' : I64 t) (qs : List (List (Int × Int))) (was now : List Int) (ht : changePP false ls a b ns = (qs, 0)) (hqm : qs.length = ls.length) (hqs : ∀ j, j < qs.length → (qs.getD j []).length ≤ 1100) (hgv : changePP true qs a b ns = (ls, 0)) (hwa : atPP ls t = was) (hno : atPP qs t = now) (hwl : was.length = n) (hnl : now.length = was.length) (hnn : n2 = n) (htb : timeB t = true) (hrow : ∀ j, j < was.length → 0 ≤ ns.getD j 0 ∧ ns.getD j 0 ≤ 1048576 ∧ 0 ≤ was.getD j 0 ∧ was.getD j 0 ≤ 1048576 ∧ now.getD j 0 = was.getD j 0 - (if a ≤ t ∧ t < b then ns.getD j 0 else 0)) :
    Calls Try.prog 8 #[.slice A n c, .int .i64 a, .int .i64 b, .slice A2 n2 c2, .int .i64 t] w fun e w' => e = .returned (.bool true) ∧ Below w.heap.size w w' := by
  have FP := Lib.hid hp
  have FN := Lib.hid hq
  have HS := Lib.hid hs
  have hk10 := hp.kinds
  have hf10 := hq.few
  have HB := Lib.hid (Below.refl w.heap.size w)
  have H_a := Lib.hid ha
  have ha1 := ha.1
  have ha2 := ha.2
  have H_b := Lib.hid hb
  have hb1 := hb.1
  have hb2 := hb.2
  have H_t := Lib.hid ht'
  have ht1 := ht'.1
  have ht2 := ht'.2
  have HT := Lib.hid ht
  have HQM := Lib.hid hqm
  have HQS := Lib.hid hqs
  have HGV := Lib.hid hgv
  have HWA := Lib.hid hwa
  have HNO := Lib.hid hno
  have HNL := Lib.hid hnl
  have HTB := Lib.hid htb
  have HROW := Lib.hid hrow
  clear hp hq hs ha hb ht' ht hqm hqs hgv hwa hno hnl htb hrow
  subst hnn
  subst hwl
  go_enter Try.func8, Try.ntmps8
  go_wp2_with fail
  refine (poolsAwake_any H _).mono ?_
  rintro e w1 ⟨rfl, hb1⟩
  have hBz := HB.out.size
  have HB2 := Lib.hid (HB.out.trans (hb1.mono hBz))
  clear HB hBz
  have HB := HB2
  clear HB2
  have FP2 := Lib.hid (FP.out.next hb1)
  clear FP
  have FP := FP2
  clear FP2
  have FN2 := Lib.hid (FN.out.next hb1)
  clear FN
  have FN := FN2
  clear FN2
  clear hb1
  go_wp2_with fail
  refine (calls_bool (short_any _ _ _ ls _ FP.out.reads (ml10 FP.out.kinds)) HS.out).mono ?_
  rintro e w2 ⟨rfl, hb2⟩
  have hBz := HB.out.size
  have HB2 := Lib.hid (HB.out.trans (hb2.mono hBz))
  clear HB hBz
  have HB := HB2
  clear HB2
  have FP2 := Lib.hid (FP.out.next hb2)
  clear FP
  have FP := FP2
  clear FP2
  have FN2 := Lib.hid (FN.out.next hb2)
  clear FN
  have FN := FN2
  clear FN2
  clear hb2
  go_wp2_with fail
  refine (calls_ppost (H.take _ _ _ _ _ _ _ a b _ _ FP.out FN.out H_a.out H_b.out) HT.out).mono ?_
  rintro e w3 ⟨⟨A3, c3, rfl, hr3, hnil3, hc3⟩, hb3⟩
  have hBz := HB.out.size
  have HB2 := Lib.hid (HB.out.trans (hb3.mono hBz))
  clear HB hBz
  have HB := HB2
  clear HB2
  have FP2 := Lib.hid (FP.out.next hb3)
  clear FP
  have FP := FP2
  clear FP2
  have FN2 := Lib.hid (FN.out.next hb3)
  clear FN
  have FN := FN2
  clear FN2
  clear hb3
  have F1 := Lib.hid (show PAsk w3 A3 _ c3 _ from ⟨hr3, hnil3, hc3, by have := HQM.out; have := FP.out.reads.len; have := FP.out.kinds; omega, HQS.out⟩)
  clear hr3 hnil3 hc3
  go_wp2_with fail
  refine (calls_ppost (H.give _ _ _ _ _ _ _ a b _ _ F1.out FN.out H_a.out H_b.out) HGV.out).mono ?_
  rintro e w4 ⟨⟨A4, c4, rfl, hr4, hnil4, hc4⟩, hb4⟩
  have hBz := HB.out.size
  have HB2 := Lib.hid (HB.out.trans (hb4.mono hBz))
  clear HB hBz
  have HB := HB2
  clear HB2
  have FP2 := Lib.hid (FP.out.next hb4)
  clear FP
  have FP := FP2
  clear FP2
  have FN2 := Lib.hid (FN.out.next hb4)
  clear FN
  have FN := FN2
  clear FN2
  have F12 := Lib.hid (F1.out.next hb4)
  clear F1
  have F1 := F12
  clear F12
  clear hb4
  have F2 := Lib.hid (show PAsk w4 A4 _ c4 _ from ⟨hr4, hnil4, hc4, by have := FP.out.reads.len; have := FP.out.kinds; omega, by have := FP.out.reads.len; rw [this]; exact FP.out.steps⟩)
  clear hr4 hnil4 hc4
  go_wp2_with fail
  refine (calls_ipost (H.at_ _ _ _ _ t _ FP.out H_t.out) HWA.out).mono ?_
  rintro e w5 ⟨⟨A5, c5, rfl, hr5, hnil5, hc5⟩, hb5⟩
  have hBz := HB.out.size
  have HB2 := Lib.hid (HB.out.trans (hb5.mono hBz))
  clear HB hBz
  have HB := HB2
  clear HB2
  have FP2 := Lib.hid (FP.out.next hb5)
  clear FP
  have FP := FP2
  clear FP2
  have FN2 := Lib.hid (FN.out.next hb5)
  clear FN
  have FN := FN2
  clear FN2
  have F12 := Lib.hid (F1.out.next hb5)
  clear F1
  have F1 := F12
  clear F12
  have F22 := Lib.hid (F2.out.next hb5)
  clear F2
  have F2 := F22
  clear F22
  clear hb5
  have FW := Lib.hid hr5
  clear hr5 hnil5 hc5
  go_wp2_with fail
  refine (calls_ipost (H.at_ _ _ _ _ t _ F1.out H_t.out) HNO.out).mono ?_
  rintro e w6 ⟨⟨A6, c6, rfl, hr6, hnil6, hc6⟩, hb6⟩
  have hBz := HB.out.size
  have HB2 := Lib.hid (HB.out.trans (hb6.mono hBz))
  clear HB hBz
  have HB := HB2
  clear HB2
  have FP2 := Lib.hid (FP.out.next hb6)
  clear FP
  have FP := FP2
  clear FP2
  have FN2 := Lib.hid (FN.out.next hb6)
  clear FN
  have FN := FN2
  clear FN2
  have F12 := Lib.hid (F1.out.next hb6)
  clear F1
  have F1 := F12
  clear F12
  have F22 := Lib.hid (F2.out.next hb6)
  clear F2
  have F2 := F22
  clear F22
  have FW2 := Lib.hid (FW.out.next hb6)
  clear FW
  have FW := FW2
  clear FW2
  clear hb6
  have FX := Lib.hid hr6
  clear hr6 hnil6 hc6
  go_wp2_with fail
  go_loop [17] (fun i => ∃ k : Nat, k ≤ was.length ∧ i = .int .i64 k) (fun i => was.length - (intOf i).toNat)
  case atStart => exact ⟨0, Nat.zero_le _, rfl⟩
  case round =>
    obtain ⟨k, hk, rfl⟩ := hrel
    by_cases hlt : k < was.length
    · obtain ⟨bw, ow, rfl, _, hcw⟩ := FW.out.one hlt
      have hkn : k < now.length := by rw [HNL.out]; exact hlt
      obtain ⟨bx, ox, rfl, _, hcx⟩ := FX.out.one hkn
      obtain ⟨bn, on, rfl, _, hcn⟩ := FN.out.reads.one hlt
      have hrow := Lib.hid (HROW.out k hlt)
      obtain ⟨x, hx⟩ : ∃ x, was.getD k 0 = x := ⟨_, rfl⟩
      obtain ⟨y, hy⟩ : ∃ y, now.getD k 0 = y := ⟨_, rfl⟩
      obtain ⟨d, hd⟩ : ∃ d, ns.getD k 0 = d := ⟨_, rfl⟩
      rw [hx, hy, hd] at hrow
      rw [hx] at hcw
      rw [hy] at hcx
      rw [hd] at hcn
      clear hx hy hd
      have hd0 := hrow.out.1
      have hd9 := hrow.out.2.1
      have hx0 := hrow.out.2.2.1
      have hx9 := hrow.out.2.2.2.1
      have hyy := Lib.hid hrow.out.2.2.2.2
      clear hrow
      go_wp2_with fail
      refine (whenRight_b t _ _ HTB.out).mono ?_
      rintro e wz ⟨rfl, rfl⟩
      by_cases g1 : a ≤ t
      · by_cases g2 : t < b
        · have e : y = x - d := by rw [hyy.out, if_pos ⟨g1, g2⟩]
          subst e
          clear hyy
          go_wp2
          go_round
          case rel => exact ⟨k + 1, by omega, by go_num⟩
          case measure => simp [intOf]; omega
        · have e : y = x := by rw [hyy.out, if_neg (fun h => g2 h.2)]; omega
          subst e
          clear hyy
          have g2d : decide (t < b) = false := by simpa using g2
          go_wp2
          go_round
          case rel => exact ⟨k + 1, by omega, by go_num⟩
          case measure => simp [intOf]; omega
      · have e : y = x := by rw [hyy.out, if_neg (fun h => g1 h.1)]; omega
        subst e
        clear hyy
        have g1d : decide (a ≤ t) = false := by simpa using g1
        go_wp2
        go_round
        case rel => exact ⟨k + 1, by omega, by go_num⟩
        case measure => simp [intOf]; omega
    · have hnlb : ((now.length : Int) == (was.length : Int)) = true := by rw [HNL.out]; simp
      go_wp2_with fail
      refine (r_same F2.out FP.out.reads rfl).mono ?_
      rintro e w7 ⟨rfl, hb7⟩
      have hBz := HB.out.size
      have HB2 := Lib.hid (HB.out.trans (hb7.mono hBz))
      clear HB hBz
      have HB := HB2
      clear HB2
      have FP2 := Lib.hid (FP.out.next hb7)
      clear FP
      have FP := FP2
      clear FP2
      have FN2 := Lib.hid (FN.out.next hb7)
      clear FN
      have FN := FN2
      clear FN2
      have F12 := Lib.hid (F1.out.next hb7)
      clear F1
      have F1 := F12
      clear F12
      have F22 := Lib.hid (F2.out.next hb7)
      clear F2
      have F2 := F22
      clear F22
      have FW2 := Lib.hid (FW.out.next hb7)
      clear FW
      have FW := FW2
      clear FW2
      have FX2 := Lib.hid (FX.out.next hb7)
      clear FX
      have FX := FX2
      clear FX2
      clear hb7
      go_wp2
      go_ret
      exact ⟨rfl, HB.out⟩

theorem poolsBack_walk (H : PoolsOk) (A : Option Addr) (n c : Nat) (A2 : Option Addr) (n2 c2 : Nat) (ls : List (List (Int × Int))) (ns : List Int) (a b t : Int) (w : World) (hr : RSS w w.heap.size A n ls) (hnil : A = none → c = 0) (hnc : n ≤ c) (hn : n ≤ maxLen) (hr2 : RI w w.heap.size A2 n2 ns) (hn2 : n2 ≤ maxLen) (hns : ∀ x ∈ ns, I64 x) (ha : I64 a) (hb : I64 b) (ht' : I64 t) :
    Calls Try.prog 8 #[.slice A n c, .int .i64 a, .int .i64 b, .slice A2 n2 c2, .int .i64 t] w fun e w' => e = .returned (.bool true) ∧ Below w.heap.size w w' := by
  cases hs : shortB ls with
  | false => exact poolsBack_far H A n c A2 n2 c2 ls a b t w hr hn hn2 (.inl hs)
  | true =>
    by_cases h10 : 10 < n2
    · exact poolsBack_far H A n c A2 n2 c2 ls a b t w hr hn hn2 (.inr h10)
    · have hp := short_ask hs hr hnil hnc
      have hq : NAsk w A2 n2 ns := ⟨hr2, by omega, hns⟩
      rcases change_cases false ls a b ns with ⟨er, hne, htk⟩ | ⟨_, _, _, htk⟩
      · exact poolsBack_no H A n c A2 n2 c2 ls ns a b t w hp hq hs ha hb ht' er htk (bne_iff_ne.2 hne)
      · have T := taken_of hs htk
        have hln := hr.len
        have hqs : ∀ j, j < (headPP false ls a b ns ls.length).length → ((headPP false ls a b ns ls.length).getD j []).length ≤ 1100 := fun j hj => by have := T.steps j hj; omega
        have hwl : (atPP ls t).length = n := by rw [atPP_len T.right, hln]
        have hnl : (atPP (headPP false ls a b ns ls.length) t).length = (atPP ls t).length := by rw [atPP_len T.right2, T.many, hwl, hln]
        have hnn : n2 = n := by rw [← hr2.1, T.len, hln]
        cases htb : timeB t with
        | false =>
          exact poolsBack_notime H A n c A2 n2 c2 ls ns a b t w hp hq hs ha hb ht' _ _ _ htk T.many hqs T.back rfl rfl hwl hnl hnn htb (by
            have := (rightPP_at T.right).1
            rw [hwl, ← hln]
            exact List.length_pos_iff.2 this)
        | true =>
          refine poolsBack_time H A n c A2 n2 c2 ls ns a b t w hp hq hs ha hb ht' _ _ _ htk T.many hqs T.back rfl rfl hwl hnl hnn htb fun j hj => ?_
          have hj' : j < ls.length := by rw [hwl, ← hln] at hj; exact hj
          obtain ⟨_, g2, g3, _⟩ := T.ok j hj'
          refine ⟨g2, g3, ?_, ?_, taken_atPP hs T htb hj'⟩
          all_goals
            rw [atPP_getD T.right t hj']
            unfold atR
            split
            · have := atP_bounds ((rightP_iff _).1 ((rightPP_at T.right).2.2 j hj')).2.1 t
              unfold MAXF at this
              omega
            · omega

end Go.Proofs.Ytkhnlbkghjjdnaa
