/- The statement PoolsFirst, as a walk over the contracts: of any pools, times, length and amounts the call returns true. -/
import Derived.Test.YtkhnlbkghjjdnaaPoolsAwake
import Derived.Test.YtkhnlbkghjjdnaaPoolsLaws
namespace Go.Proofs.Ytkhnlbkghjjdnaa
open Go.RowKit

set_option maxRecDepth 100000 in
set_option maxHeartbeats 4000000 in
theorem poolsFirst_far (H : PoolsOk) (A : Option Addr) (n c : Nat) (A2 : Option Addr) (n2 c2 : Nat) (ls : List (List (Int × Int))) (a l y : Int) (w : World) (hr : RSS w w.heap.size A n ls) (hn : n ≤ maxLen) (hn2 : n2 ≤ maxLen) (hf : shortB ls = false ∨ 10 < n2) :
    Calls Try.prog 6 #[.slice A n c, .int .i64 a, .int .i64 l, .slice A2 n2 c2, .int .i64 y] w fun e w' => e = .returned (.bool true) ∧ Below w.heap.size w w' := by
  have HR := Lib.hid hr
  have HN := Lib.hid hn
  unfold maxLen at hn2
  cases hs : shortB ls with
  | false =>
    have HS := Lib.hid hs
    clear hs hf hr hn
    go_enter Try.func6, Try.ntmps6
    go_wp2_with fail
    refine (poolsAwake_any H _).mono ?_
    rintro e w1 ⟨rfl, hb1⟩
    have HB1 := Lib.hid hb1
    clear hb1
    go_wp2_with fail
    refine (calls_bool (short_any _ _ _ ls _ (HR.out.next HB1.out) HN.out) HS.out).mono ?_
    rintro e w2 ⟨rfl, hb2⟩
    have HB2 := Lib.hid (HB1.out.trans (hb2.mono HB1.out.size))
    clear hb2
    go_wp2
    go_ret
    exact ⟨rfl, HB2.out⟩
  | true =>
    have HS := Lib.hid hs
    have h10 : 10 < n2 := by rcases hf with h | h; (rw [h] at hs; cases hs); exact h
    clear hs hf hr hn
    go_enter Try.func6, Try.ntmps6
    go_wp2_with fail
    refine (poolsAwake_any H _).mono ?_
    rintro e w1 ⟨rfl, hb1⟩
    have HB1 := Lib.hid hb1
    clear hb1
    go_wp2_with fail
    refine (calls_bool (short_any _ _ _ ls _ (HR.out.next HB1.out) HN.out) HS.out).mono ?_
    rintro e w2 ⟨rfl, hb2⟩
    have HB2 := Lib.hid (HB1.out.trans (hb2.mono HB1.out.size))
    clear hb2
    go_wp2
    go_ret
    exact ⟨rfl, HB2.out⟩
set_option maxRecDepth 100000 in
set_option maxHeartbeats 4000000 in
theorem poolsFirst_none (H : PoolsOk) (A : Option Addr) (n c : Nat) (A2 : Option Addr) (n2 c2 : Nat) (ls : List (List (Int × Int))) (ns : List Int) (a l y : Int) (w : World) (hp : PAsk w A n c ls) (hq : NAsk w A2 n2 ns) (hs : shortB ls = true) (ha : I64 a) (hl : I64 l) (hy : I64 y) (ht : firstPP ls a l ns = (0, false)) :
    Calls Try.prog 6 #[.slice A n c, .int .i64 a, .int .i64 l, .slice A2 n2 c2, .int .i64 y] w fun e w' => e = .returned (.bool true) ∧ Below w.heap.size w w' := by
  have FP := Lib.hid hp
  have FN := Lib.hid hq
  have HS := Lib.hid hs
  have hk10 := hp.kinds
  have hf10 := hq.few
  have HB := Lib.hid (Below.refl w.heap.size w)
  have H_a := Lib.hid ha
  have ha1 := ha.1
  have ha2 := ha.2
  have H_l := Lib.hid hl
  have hl1 := hl.1
  have hl2 := hl.2
  have H_y := Lib.hid hy
  have hy1 := hy.1
  have hy2 := hy.2
  have HT := Lib.hid ht
  clear hp hq hs ha hl hy ht
  go_enter Try.func6, Try.ntmps6
  go_wp2_with fail
  refine (poolsAwake_any H _).mono ?_
  rintro e w1 ⟨rfl, hb1⟩
  have hBz := HB.out.size
  have HB2 := Lib.hid (HB.out.trans (hb1.mono hBz))
  clear HB hBz
  have HB := HB2
  clear HB2
  have FP2 := Lib.hid (FP.out.next hb1)
  clear FP
  have FP := FP2
  clear FP2
  have FN2 := Lib.hid (FN.out.next hb1)
  clear FN
  have FN := FN2
  clear FN2
  clear hb1
  go_wp2_with fail
  refine (calls_bool (short_any _ _ _ ls _ FP.out.reads (ml10 FP.out.kinds)) HS.out).mono ?_
  rintro e w2 ⟨rfl, hb2⟩
  have hBz := HB.out.size
  have HB2 := Lib.hid (HB.out.trans (hb2.mono hBz))
  clear HB hBz
  have HB := HB2
  clear HB2
  have FP2 := Lib.hid (FP.out.next hb2)
  clear FP
  have FP := FP2
  clear FP2
  have FN2 := Lib.hid (FN.out.next hb2)
  clear FN
  have FN := FN2
  clear FN2
  clear hb2
  go_wp2_with fail
  refine (calls_first (H.first _ _ _ _ _ _ _ a l _ _ FP.out FN.out H_a.out H_l.out) HT.out).mono ?_
  rintro e w3 ⟨rfl, hb3⟩
  have hBz := HB.out.size
  have HB2 := Lib.hid (HB.out.trans (hb3.mono hBz))
  clear HB hBz
  have HB := HB2
  clear HB2
  have FP2 := Lib.hid (FP.out.next hb3)
  clear FP
  have FP := FP2
  clear FP2
  have FN2 := Lib.hid (FN.out.next hb3)
  clear FN
  have FN := FN2
  clear FN2
  clear hb3
  go_wp2
  go_ret
  exact ⟨rfl, HB.out⟩

set_option maxRecDepth 100000 in
set_option maxHeartbeats 4000000 in
theorem poolsFirst_before (H : PoolsOk) (A : Option Addr) (n c : Nat) (A2 : Option Addr) (n2 c2 : Nat) (ls : List (List (Int × Int))) (ns : List Int) (a l y : Int) (w : World) (hp : PAsk w A n c ls) (hq : NAsk w A2 n2 ns) (hs : shortB ls = true) (ha : I64 a) (hl : I64 l) (hy : I64 y) (qs : List (List (Int × Int))) (t : Int) (ht : firstPP ls a l ns = (t, true)) (hti : I64 t) (hta : a ≤ t) (htk : changePP false ls t (plusZ t l) ns = (qs, 0)) (hqm : qs.length = ls.length) (hqs : ∀ j, j < qs.length → (qs.getD j []).length ≤ 1100) (hgv : changePP true qs t (plusZ t l) ns = (ls, 0)) (hy0 : y < a) :
    Calls Try.prog 6 #[.slice A n c, .int .i64 a, .int .i64 l, .slice A2 n2 c2, .int .i64 y] w fun e w' => e = .returned (.bool true) ∧ Below w.heap.size w w' := by
  have FP := Lib.hid hp
  have FN := Lib.hid hq
  have HS := Lib.hid hs
  have hk10 := hp.kinds
  have hf10 := hq.few
  have HB := Lib.hid (Below.refl w.heap.size w)
  have H_a := Lib.hid ha
  have ha1 := ha.1
  have ha2 := ha.2
  have H_l := Lib.hid hl
  have hl1 := hl.1
  have hl2 := hl.2
  have H_y := Lib.hid hy
  have hy1 := hy.1
  have hy2 := hy.2
  have HT := Lib.hid ht
  have HTI := Lib.hid hti
  have HTK := Lib.hid htk
  have HQM := Lib.hid hqm
  have HQS := Lib.hid hqs
  have HGV := Lib.hid hgv
  clear hp hq hs ha hl hy ht hti htk hqm hqs hgv
  have hti1 := HTI.out.1
  have hti2 := HTI.out.2
  go_enter Try.func6, Try.ntmps6
  go_wp2_with fail
  refine (poolsAwake_any H _).mono ?_
  rintro e w1 ⟨rfl, hb1⟩
  have hBz := HB.out.size
  have HB2 := Lib.hid (HB.out.trans (hb1.mono hBz))
  clear HB hBz
  have HB := HB2
  clear HB2
  have FP2 := Lib.hid (FP.out.next hb1)
  clear FP
  have FP := FP2
  clear FP2
  have FN2 := Lib.hid (FN.out.next hb1)
  clear FN
  have FN := FN2
  clear FN2
  clear hb1
  go_wp2_with fail
  refine (calls_bool (short_any _ _ _ ls _ FP.out.reads (ml10 FP.out.kinds)) HS.out).mono ?_
  rintro e w2 ⟨rfl, hb2⟩
  have hBz := HB.out.size
  have HB2 := Lib.hid (HB.out.trans (hb2.mono hBz))
  clear HB hBz
  have HB := HB2
  clear HB2
  have FP2 := Lib.hid (FP.out.next hb2)
  clear FP
  have FP := FP2
  clear FP2
  have FN2 := Lib.hid (FN.out.next hb2)
  clear FN
  have FN := FN2
  clear FN2
  clear hb2
  go_wp2_with fail
  refine (calls_first (H.first _ _ _ _ _ _ _ a l _ _ FP.out FN.out H_a.out H_l.out) HT.out).mono ?_
  rintro e w3 ⟨rfl, hb3⟩
  have hBz := HB.out.size
  have HB2 := Lib.hid (HB.out.trans (hb3.mono hBz))
  clear HB hBz
  have HB := HB2
  clear HB2
  have FP2 := Lib.hid (FP.out.next hb3)
  clear FP
  have FP := FP2
  clear FP2
  have FN2 := Lib.hid (FN.out.next hb3)
  clear FN
  have FN := FN2
  clear FN2
  clear hb3
  go_wp2_with fail
  refine (bel_same (whenPlus_any t l _)).mono ?_
  rintro e w4 ⟨rfl, hb4⟩
  have hBz := HB.out.size
  have HB2 := Lib.hid (HB.out.trans (hb4.mono hBz))
  clear HB hBz
  have HB := HB2
  clear HB2
  have FP2 := Lib.hid (FP.out.next hb4)
  clear FP
  have FP := FP2
  clear FP2
  have FN2 := Lib.hid (FN.out.next hb4)
  clear FN
  have FN := FN2
  clear FN2
  clear hb4
  go_wp2_with fail
  refine (calls_ppost (H.take _ _ _ _ _ _ _ t (plusZ t l) _ _ FP.out FN.out HTI.out (plusZ_i64 t l)) HTK.out).mono ?_
  rintro e w5 ⟨⟨A5, c5, rfl, hr5, hnil5, hc5⟩, hb5⟩
  have hBz := HB.out.size
  have HB2 := Lib.hid (HB.out.trans (hb5.mono hBz))
  clear HB hBz
  have HB := HB2
  clear HB2
  have FP2 := Lib.hid (FP.out.next hb5)
  clear FP
  have FP := FP2
  clear FP2
  have FN2 := Lib.hid (FN.out.next hb5)
  clear FN
  have FN := FN2
  clear FN2
  clear hb5
  have F1 := Lib.hid (show PAsk w5 A5 _ c5 _ from ⟨hr5, hnil5, hc5, by have := HQM.out; have := FP.out.reads.len; have := FP.out.kinds; omega, HQS.out⟩)
  clear hr5 hnil5 hc5
  go_wp2_with fail
  refine (bel_same (whenPlus_any t l _)).mono ?_
  rintro e w6 ⟨rfl, hb6⟩
  have hBz := HB.out.size
  have HB2 := Lib.hid (HB.out.trans (hb6.mono hBz))
  clear HB hBz
  have HB := HB2
  clear HB2
  have FP2 := Lib.hid (FP.out.next hb6)
  clear FP
  have FP := FP2
  clear FP2
  have FN2 := Lib.hid (FN.out.next hb6)
  clear FN
  have FN := FN2
  clear FN2
  have F12 := Lib.hid (F1.out.next hb6)
  clear F1
  have F1 := F12
  clear F12
  clear hb6
  go_wp2_with fail
  refine (calls_ppost (H.give _ _ _ _ _ _ _ t (plusZ t l) _ _ F1.out FN.out HTI.out (plusZ_i64 t l)) HGV.out).mono ?_
  rintro e w7 ⟨⟨A7, c7, rfl, hr7, hnil7, hc7⟩, hb7⟩
  have hBz := HB.out.size
  have HB2 := Lib.hid (HB.out.trans (hb7.mono hBz))
  clear HB hBz
  have HB := HB2
  clear HB2
  have FP2 := Lib.hid (FP.out.next hb7)
  clear FP
  have FP := FP2
  clear FP2
  have FN2 := Lib.hid (FN.out.next hb7)
  clear FN
  have FN := FN2
  clear FN2
  have F12 := Lib.hid (F1.out.next hb7)
  clear F1
  have F1 := F12
  clear F12
  clear hb7
  have F2 := Lib.hid (show PAsk w7 A7 _ c7 _ from ⟨hr7, hnil7, hc7, by have := FP.out.reads.len; have := FP.out.kinds; omega, by have := FP.out.reads.len; rw [this]; exact FP.out.steps⟩)
  clear hr7 hnil7 hc7
  go_wp2_with fail
  refine (r_same F2.out FP.out.reads rfl).mono ?_
  rintro e w8 ⟨rfl, hb8⟩
  have hBz := HB.out.size
  have HB2 := Lib.hid (HB.out.trans (hb8.mono hBz))
  clear HB hBz
  have HB := HB2
  clear HB2
  have FP2 := Lib.hid (FP.out.next hb8)
  clear FP
  have FP := FP2
  clear FP2
  have FN2 := Lib.hid (FN.out.next hb8)
  clear FN
  have FN := FN2
  clear FN2
  have F12 := Lib.hid (F1.out.next hb8)
  clear F1
  have F1 := F12
  clear F12
  have F22 := Lib.hid (F2.out.next hb8)
  clear F2
  have F2 := F22
  clear F22
  clear hb8
  go_wp2
  go_ret
  exact ⟨rfl, HB.out⟩

set_option maxRecDepth 100000 in
set_option maxHeartbeats 4000000 in
theorem poolsFirst_behind (H : PoolsOk) (A : Option Addr) (n c : Nat) (A2 : Option Addr) (n2 c2 : Nat) (ls : List (List (Int × Int))) (ns : List Int) (a l y : Int) (w : World) (hp : PAsk w A n c ls) (hq : NAsk w A2 n2 ns) (hs : shortB ls = true) (ha : I64 a) (hl : I64 l) (hy : I64 y) (qs : List (List (Int × Int))) (t : Int) (ht : firstPP ls a l ns = (t, true)) (hti : I64 t) (hta : a ≤ t) (htk : changePP false ls t (plusZ t l) ns = (qs, 0)) (hqm : qs.length = ls.length) (hqs : ∀ j, j < qs.length → (qs.getD j []).length ≤ 1100) (hgv : changePP true qs t (plusZ t l) ns = (ls, 0)) (hy0 : a ≤ y) (hy9 : t ≤ y) :
    Calls Try.prog 6 #[.slice A n c, .int .i64 a, .int .i64 l, .slice A2 n2 c2, .int .i64 y] w fun e w' => e = .returned (.bool true) ∧ Below w.heap.size w w' := by
  have FP := Lib.hid hp
  have FN := Lib.hid hq
  have HS := Lib.hid hs
  have hk10 := hp.kinds
  have hf10 := hq.few
  have HB := Lib.hid (Below.refl w.heap.size w)
  have H_a := Lib.hid ha
  have ha1 := ha.1
  have ha2 := ha.2
  have H_l := Lib.hid hl
  have hl1 := hl.1
  have hl2 := hl.2
  have H_y := Lib.hid hy
  have hy1 := hy.1
  have hy2 := hy.2
  have HT := Lib.hid ht
  have HTI := Lib.hid hti
  have HTK := Lib.hid htk
  have HQM := Lib.hid hqm
  have HQS := Lib.hid hqs
  have HGV := Lib.hid hgv
  clear hp hq hs ha hl hy ht hti htk hqm hqs hgv
  have hti1 := HTI.out.1
  have hti2 := HTI.out.2
  go_enter Try.func6, Try.ntmps6
  go_wp2_with fail
  refine (poolsAwake_any H _).mono ?_
  rintro e w1 ⟨rfl, hb1⟩
  have hBz := HB.out.size
  have HB2 := Lib.hid (HB.out.trans (hb1.mono hBz))
  clear HB hBz
  have HB := HB2
  clear HB2
  have FP2 := Lib.hid (FP.out.next hb1)
  clear FP
  have FP := FP2
  clear FP2
  have FN2 := Lib.hid (FN.out.next hb1)
  clear FN
  have FN := FN2
  clear FN2
  clear hb1
  go_wp2_with fail
  refine (calls_bool (short_any _ _ _ ls _ FP.out.reads (ml10 FP.out.kinds)) HS.out).mono ?_
  rintro e w2 ⟨rfl, hb2⟩
  have hBz := HB.out.size
  have HB2 := Lib.hid (HB.out.trans (hb2.mono hBz))
  clear HB hBz
  have HB := HB2
  clear HB2
  have FP2 := Lib.hid (FP.out.next hb2)
  clear FP
  have FP := FP2
  clear FP2
  have FN2 := Lib.hid (FN.out.next hb2)
  clear FN
  have FN := FN2
  clear FN2
  clear hb2
  go_wp2_with fail
  refine (calls_first (H.first _ _ _ _ _ _ _ a l _ _ FP.out FN.out H_a.out H_l.out) HT.out).mono ?_
  rintro e w3 ⟨rfl, hb3⟩
  have hBz := HB.out.size
  have HB2 := Lib.hid (HB.out.trans (hb3.mono hBz))
  clear HB hBz
  have HB := HB2
  clear HB2
  have FP2 := Lib.hid (FP.out.next hb3)
  clear FP
  have FP := FP2
  clear FP2
  have FN2 := Lib.hid (FN.out.next hb3)
  clear FN
  have FN := FN2
  clear FN2
  clear hb3
  go_wp2_with fail
  refine (bel_same (whenPlus_any t l _)).mono ?_
  rintro e w4 ⟨rfl, hb4⟩
  have hBz := HB.out.size
  have HB2 := Lib.hid (HB.out.trans (hb4.mono hBz))
  clear HB hBz
  have HB := HB2
  clear HB2
  have FP2 := Lib.hid (FP.out.next hb4)
  clear FP
  have FP := FP2
  clear FP2
  have FN2 := Lib.hid (FN.out.next hb4)
  clear FN
  have FN := FN2
  clear FN2
  clear hb4
  go_wp2_with fail
  refine (calls_ppost (H.take _ _ _ _ _ _ _ t (plusZ t l) _ _ FP.out FN.out HTI.out (plusZ_i64 t l)) HTK.out).mono ?_
  rintro e w5 ⟨⟨A5, c5, rfl, hr5, hnil5, hc5⟩, hb5⟩
  have hBz := HB.out.size
  have HB2 := Lib.hid (HB.out.trans (hb5.mono hBz))
  clear HB hBz
  have HB := HB2
  clear HB2
  have FP2 := Lib.hid (FP.out.next hb5)
  clear FP
  have FP := FP2
  clear FP2
  have FN2 := Lib.hid (FN.out.next hb5)
  clear FN
  have FN := FN2
  clear FN2
  clear hb5
  have F1 := Lib.hid (show PAsk w5 A5 _ c5 _ from ⟨hr5, hnil5, hc5, by have := HQM.out; have := FP.out.reads.len; have := FP.out.kinds; omega, HQS.out⟩)
  clear hr5 hnil5 hc5
  go_wp2_with fail
  refine (bel_same (whenPlus_any t l _)).mono ?_
  rintro e w6 ⟨rfl, hb6⟩
  have hBz := HB.out.size
  have HB2 := Lib.hid (HB.out.trans (hb6.mono hBz))
  clear HB hBz
  have HB := HB2
  clear HB2
  have FP2 := Lib.hid (FP.out.next hb6)
  clear FP
  have FP := FP2
  clear FP2
  have FN2 := Lib.hid (FN.out.next hb6)
  clear FN
  have FN := FN2
  clear FN2
  have F12 := Lib.hid (F1.out.next hb6)
  clear F1
  have F1 := F12
  clear F12
  clear hb6
  go_wp2_with fail
  refine (calls_ppost (H.give _ _ _ _ _ _ _ t (plusZ t l) _ _ F1.out FN.out HTI.out (plusZ_i64 t l)) HGV.out).mono ?_
  rintro e w7 ⟨⟨A7, c7, rfl, hr7, hnil7, hc7⟩, hb7⟩
  have hBz := HB.out.size
  have HB2 := Lib.hid (HB.out.trans (hb7.mono hBz))
  clear HB hBz
  have HB := HB2
  clear HB2
  have FP2 := Lib.hid (FP.out.next hb7)
  clear FP
  have FP := FP2
  clear FP2
  have FN2 := Lib.hid (FN.out.next hb7)
  clear FN
  have FN := FN2
  clear FN2
  have F12 := Lib.hid (F1.out.next hb7)
  clear F1
  have F1 := F12
  clear F12
  clear hb7
  have F2 := Lib.hid (show PAsk w7 A7 _ c7 _ from ⟨hr7, hnil7, hc7, by have := FP.out.reads.len; have := FP.out.kinds; omega, by have := FP.out.reads.len; rw [this]; exact FP.out.steps⟩)
  clear hr7 hnil7 hc7
  go_wp2_with fail
  refine (r_same F2.out FP.out.reads rfl).mono ?_
  rintro e w8 ⟨rfl, hb8⟩
  have hBz := HB.out.size
  have HB2 := Lib.hid (HB.out.trans (hb8.mono hBz))
  clear HB hBz
  have HB := HB2
  clear HB2
  have FP2 := Lib.hid (FP.out.next hb8)
  clear FP
  have FP := FP2
  clear FP2
  have FN2 := Lib.hid (FN.out.next hb8)
  clear FN
  have FN := FN2
  clear FN2
  have F12 := Lib.hid (F1.out.next hb8)
  clear F1
  have F1 := F12
  clear F12
  have F22 := Lib.hid (F2.out.next hb8)
  clear F2
  have F2 := F22
  clear F22
  clear hb8
  go_wp2
  go_ret
  exact ⟨rfl, HB.out⟩

set_option maxRecDepth 100000 in
set_option maxHeartbeats 4000000 in
theorem poolsFirst_early (H : PoolsOk) (A : Option Addr) (n c : Nat) (A2 : Option Addr) (n2 c2 : Nat) (ls : List (List (Int × Int))) (ns : List Int) (a l y : Int) (w : World) (hp : PAsk w A n c ls) (hq : NAsk w A2 n2 ns) (hs : shortB ls = true) (ha : I64 a) (hl : I64 l) (hy : I64 y) (qs : List (List (Int × Int))) (t : Int) (ht : firstPP ls a l ns = (t, true)) (hti : I64 t) (hta : a ≤ t) (htk : changePP false ls t (plusZ t l) ns = (qs, 0)) (hqm : qs.length = ls.length) (hqs : ∀ j, j < qs.length → (qs.getD j []).length ≤ 1100) (hgv : changePP true qs t (plusZ t l) ns = (ls, 0)) (hy0 : a ≤ y) (hy9 : y < t) (hek : changePP false ls y (plusZ y l) ns = (ls, 5)) :
    Calls Try.prog 6 #[.slice A n c, .int .i64 a, .int .i64 l, .slice A2 n2 c2, .int .i64 y] w fun e w' => e = .returned (.bool true) ∧ Below w.heap.size w w' := by
  have FP := Lib.hid hp
  have FN := Lib.hid hq
  have HS := Lib.hid hs
  have hk10 := hp.kinds
  have hf10 := hq.few
  have HB := Lib.hid (Below.refl w.heap.size w)
  have H_a := Lib.hid ha
  have ha1 := ha.1
  have ha2 := ha.2
  have H_l := Lib.hid hl
  have hl1 := hl.1
  have hl2 := hl.2
  have H_y := Lib.hid hy
  have hy1 := hy.1
  have hy2 := hy.2
  have HT := Lib.hid ht
  have HTI := Lib.hid hti
  have HTK := Lib.hid htk
  have HQM := Lib.hid hqm
  have HQS := Lib.hid hqs
  have HGV := Lib.hid hgv
  have HEK := Lib.hid hek
  clear hp hq hs ha hl hy ht hti htk hqm hqs hgv hek
  have hti1 := HTI.out.1
  have hti2 := HTI.out.2
  go_enter Try.func6, Try.ntmps6
  go_wp2_with fail
  refine (poolsAwake_any H _).mono ?_
  rintro e w1 ⟨rfl, hb1⟩
  have hBz := HB.out.size
  have HB2 := Lib.hid (HB.out.trans (hb1.mono hBz))
  clear HB hBz
  have HB := HB2
  clear HB2
  have FP2 := Lib.hid (FP.out.next hb1)
  clear FP
  have FP := FP2
  clear FP2
  have FN2 := Lib.hid (FN.out.next hb1)
  clear FN
  have FN := FN2
  clear FN2
  clear hb1
  go_wp2_with fail
  refine (calls_bool (short_any _ _ _ ls _ FP.out.reads (ml10 FP.out.kinds)) HS.out).mono ?_
  rintro e w2 ⟨rfl, hb2⟩
  have hBz := HB.out.size
  have HB2 := Lib.hid (HB.out.trans (hb2.mono hBz))
  clear HB hBz
  have HB := HB2
  clear HB2
  have FP2 := Lib.hid (FP.out.next hb2)
  clear FP
  have FP := FP2
  clear FP2
  have FN2 := Lib.hid (FN.out.next hb2)
  clear FN
  have FN := FN2
  clear FN2
  clear hb2
  go_wp2_with fail
  refine (calls_first (H.first _ _ _ _ _ _ _ a l _ _ FP.out FN.out H_a.out H_l.out) HT.out).mono ?_
  rintro e w3 ⟨rfl, hb3⟩
  have hBz := HB.out.size
  have HB2 := Lib.hid (HB.out.trans (hb3.mono hBz))
  clear HB hBz
  have HB := HB2
  clear HB2
  have FP2 := Lib.hid (FP.out.next hb3)
  clear FP
  have FP := FP2
  clear FP2
  have FN2 := Lib.hid (FN.out.next hb3)
  clear FN
  have FN := FN2
  clear FN2
  clear hb3
  go_wp2_with fail
  refine (bel_same (whenPlus_any t l _)).mono ?_
  rintro e w4 ⟨rfl, hb4⟩
  have hBz := HB.out.size
  have HB2 := Lib.hid (HB.out.trans (hb4.mono hBz))
  clear HB hBz
  have HB := HB2
  clear HB2
  have FP2 := Lib.hid (FP.out.next hb4)
  clear FP
  have FP := FP2
  clear FP2
  have FN2 := Lib.hid (FN.out.next hb4)
  clear FN
  have FN := FN2
  clear FN2
  clear hb4
  go_wp2_with fail
  refine (calls_ppost (H.take _ _ _ _ _ _ _ t (plusZ t l) _ _ FP.out FN.out HTI.out (plusZ_i64 t l)) HTK.out).mono ?_
  rintro e w5 ⟨⟨A5, c5, rfl, hr5, hnil5, hc5⟩, hb5⟩
  have hBz := HB.out.size
  have HB2 := Lib.hid (HB.out.trans (hb5.mono hBz))
  clear HB hBz
  have HB := HB2
  clear HB2
  have FP2 := Lib.hid (FP.out.next hb5)
  clear FP
  have FP := FP2
  clear FP2
  have FN2 := Lib.hid (FN.out.next hb5)
  clear FN
  have FN := FN2
  clear FN2
  clear hb5
  have F1 := Lib.hid (show PAsk w5 A5 _ c5 _ from ⟨hr5, hnil5, hc5, by have := HQM.out; have := FP.out.reads.len; have := FP.out.kinds; omega, HQS.out⟩)
  clear hr5 hnil5 hc5
  go_wp2_with fail
  refine (bel_same (whenPlus_any t l _)).mono ?_
  rintro e w6 ⟨rfl, hb6⟩
  have hBz := HB.out.size
  have HB2 := Lib.hid (HB.out.trans (hb6.mono hBz))
  clear HB hBz
  have HB := HB2
  clear HB2
  have FP2 := Lib.hid (FP.out.next hb6)
  clear FP
  have FP := FP2
  clear FP2
  have FN2 := Lib.hid (FN.out.next hb6)
  clear FN
  have FN := FN2
  clear FN2
  have F12 := Lib.hid (F1.out.next hb6)
  clear F1
  have F1 := F12
  clear F12
  clear hb6
  go_wp2_with fail
  refine (calls_ppost (H.give _ _ _ _ _ _ _ t (plusZ t l) _ _ F1.out FN.out HTI.out (plusZ_i64 t l)) HGV.out).mono ?_
  rintro e w7 ⟨⟨A7, c7, rfl, hr7, hnil7, hc7⟩, hb7⟩
  have hBz := HB.out.size
  have HB2 := Lib.hid (HB.out.trans (hb7.mono hBz))
  clear HB hBz
  have HB := HB2
  clear HB2
  have FP2 := Lib.hid (FP.out.next hb7)
  clear FP
  have FP := FP2
  clear FP2
  have FN2 := Lib.hid (FN.out.next hb7)
  clear FN
  have FN := FN2
  clear FN2
  have F12 := Lib.hid (F1.out.next hb7)
  clear F1
  have F1 := F12
  clear F12
  clear hb7
  have F2 := Lib.hid (show PAsk w7 A7 _ c7 _ from ⟨hr7, hnil7, hc7, by have := FP.out.reads.len; have := FP.out.kinds; omega, by have := FP.out.reads.len; rw [this]; exact FP.out.steps⟩)
  clear hr7 hnil7 hc7
  go_wp2_with fail
  refine (r_same F2.out FP.out.reads rfl).mono ?_
  rintro e w8 ⟨rfl, hb8⟩
  have hBz := HB.out.size
  have HB2 := Lib.hid (HB.out.trans (hb8.mono hBz))
  clear HB hBz
  have HB := HB2
  clear HB2
  have FP2 := Lib.hid (FP.out.next hb8)
  clear FP
  have FP := FP2
  clear FP2
  have FN2 := Lib.hid (FN.out.next hb8)
  clear FN
  have FN := FN2
  clear FN2
  have F12 := Lib.hid (F1.out.next hb8)
  clear F1
  have F1 := F12
  clear F12
  have F22 := Lib.hid (F2.out.next hb8)
  clear F2
  have F2 := F22
  clear F22
  clear hb8
  go_wp2_with fail
  refine (bel_same (whenPlus_any y l _)).mono ?_
  rintro e w9 ⟨rfl, hb9⟩
  have hBz := HB.out.size
  have HB2 := Lib.hid (HB.out.trans (hb9.mono hBz))
  clear HB hBz
  have HB := HB2
  clear HB2
  have FP2 := Lib.hid (FP.out.next hb9)
  clear FP
  have FP := FP2
  clear FP2
  have FN2 := Lib.hid (FN.out.next hb9)
  clear FN
  have FN := FN2
  clear FN2
  have F12 := Lib.hid (F1.out.next hb9)
  clear F1
  have F1 := F12
  clear F12
  have F22 := Lib.hid (F2.out.next hb9)
  clear F2
  have F2 := F22
  clear F22
  clear hb9
  go_wp2_with fail
  refine (calls_ppost (H.take _ _ _ _ _ _ _ y (plusZ y l) _ _ FP.out FN.out H_y.out (plusZ_i64 y l)) HEK.out).mono ?_
  rintro e w10 ⟨⟨A10, c10, rfl, hr10, hnil10, hc10⟩, hb10⟩
  have hBz := HB.out.size
  have HB2 := Lib.hid (HB.out.trans (hb10.mono hBz))
  clear HB hBz
  have HB := HB2
  clear HB2
  have FP2 := Lib.hid (FP.out.next hb10)
  clear FP
  have FP := FP2
  clear FP2
  have FN2 := Lib.hid (FN.out.next hb10)
  clear FN
  have FN := FN2
  clear FN2
  have F12 := Lib.hid (F1.out.next hb10)
  clear F1
  have F1 := F12
  clear F12
  have F22 := Lib.hid (F2.out.next hb10)
  clear F2
  have F2 := F22
  clear F22
  clear hb10
  have F3 := Lib.hid (show PAsk w10 A10 _ c10 _ from ⟨hr10, hnil10, hc10, by have := FP.out.reads.len; have := FP.out.kinds; omega, by have := FP.out.reads.len; rw [this]; exact FP.out.steps⟩)
  clear hr10 hnil10 hc10
  go_wp2
  go_ret
  exact ⟨rfl, HB.out⟩

theorem poolsFirst_walk (H : PoolsOk) (A : Option Addr) (n c : Nat) (A2 : Option Addr) (n2 c2 : Nat) (ls : List (List (Int × Int))) (ns : List Int) (a l y : Int) (w : World) (hr : RSS w w.heap.size A n ls) (hnil : A = none → c = 0) (hnc : n ≤ c) (hn : n ≤ maxLen) (hr2 : RI w w.heap.size A2 n2 ns) (hn2 : n2 ≤ maxLen) (hns : ∀ x ∈ ns, I64 x) (ha : I64 a) (hl : I64 l) (hy : I64 y) :
    Calls Try.prog 6 #[.slice A n c, .int .i64 a, .int .i64 l, .slice A2 n2 c2, .int .i64 y] w fun e w' => e = .returned (.bool true) ∧ Below w.heap.size w w' := by
  cases hs : shortB ls with
  | false => exact poolsFirst_far H A n c A2 n2 c2 ls a l y w hr hn hn2 (.inl hs)
  | true =>
    by_cases h10 : 10 < n2
    · exact poolsFirst_far H A n c A2 n2 c2 ls a l y w hr hn hn2 (.inr h10)
    · have hp := short_ask hs hr hnil hnc
      have hq : NAsk w A2 n2 ns := ⟨hr2, by omega, hns⟩
      obtain ⟨⟨t, b⟩, ht⟩ : ∃ r, firstPP ls a l ns = r := ⟨_, rfl⟩
      cases b with
      | false =>
        have h0 := first_false ht
        subst h0
        exact poolsFirst_none H A n c A2 n2 c2 ls ns a l y w hp hq hs ha hl hy ht
      | true =>
        obtain ⟨qs, htk⟩ := first_taken hs ht
        have T := taken_of hs htk
        obtain ⟨_, g1, g2, _, _⟩ := first_true ht
        have hti : I64 t := by unfold I64 at *; unfold NEVER at g2; omega
        have hqs : ∀ j, j < qs.length → (qs.getD j []).length ≤ 1100 := fun j hj => by have := T.steps j hj; omega
        by_cases hy0 : y < a
        · exact poolsFirst_before H A n c A2 n2 c2 ls ns a l y w hp hq hs ha hl hy qs t ht hti g1 htk T.many hqs T.back hy0
        · by_cases hy9 : t ≤ y
          · exact poolsFirst_behind H A n c A2 n2 c2 ls ns a l y w hp hq hs ha hl hy qs t ht hti g1 htk T.many hqs T.back (by omega) hy9
          · exact poolsFirst_early H A n c A2 n2 c2 ls ns a l y w hp hq hs ha hl hy qs t ht hti g1 htk T.many hqs T.back (by omega) (by omega) (first_early hs ht (by omega) (by omega))

end Go.Proofs.Ytkhnlbkghjjdnaa
