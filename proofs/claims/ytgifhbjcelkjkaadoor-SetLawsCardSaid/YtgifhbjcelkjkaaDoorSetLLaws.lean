/- The statement SetLaws, as a walk: of any three lists of int the call returns true and keeps all that was there. -/
import Derived.Test.YtgifhbjcelkjkaaDoorSetKit2
namespace Go.Proofs.YtgifhbjcelkjkaaDoor
open Go.RowKit Go.Shelf

set_option maxRecDepth 100000 in
theorem laws_wrong0 (A A' A'' : Option Addr) (n c n' c' n'' c'' : Nat) (xs ys zs : List Int) (w : World) (hfa : RI w w.heap.size A n xs) (hfb : RI w w.heap.size A' n' ys) (hfc : RI w w.heap.size A'' n'' zs) (hn : n ≤ maxLen) (hn' : n' ≤ maxLen) (hn'' : n'' ≤ maxLen) (hg : GlobOk w) (hra : rightB xs = false) (hq : (((joinL xs ys).length : Int) == 0) = true) :
    Calls Tryd.prog 5 #[.slice A n c, .slice A' n' c', .slice A'' n'' c''] w fun e w' => e = .returned (.bool true) ∧ Below w.heap.size w w' := by
  have FA := Lib.hid hfa
  have FB := Lib.hid hfb
  have FC := Lib.hid hfc
  have HNA := Lib.hid hn
  have HNB := Lib.hid hn'
  have HNC := Lib.hid hn''
  have HG := Lib.hid hg
  have HB := Lib.hid (Below.refl w.heap.size w)
  have HRA := Lib.hid hra
  clear hfa hfb hfc hn hn' hn'' hg hra
  go_enter Tryd.func5, Tryd.ntmps5
  go_wp2_with fail
  refine (awake_any _ HG.out).mono ?_
  rintro e w1 ⟨rfl, hb1⟩
  have hBz := HB.out.size
  have HB2 := Lib.hid (HB.out.trans (hb1.mono hBz))
  clear HB hBz
  have HB := HB2
  clear HB2
  have HG2 := Lib.hid (HG.out.below hb1)
  clear HG
  have HG := HG2
  clear HG2
  have FA2 := Lib.hid (FA.out.next hb1)
  clear FA
  have FA := FA2
  clear FA2
  have FB2 := Lib.hid (FB.out.next hb1)
  clear FB
  have FB := FB2
  clear FB2
  have FC2 := Lib.hid (FC.out.next hb1)
  clear FC
  have FC := FC2
  clear FC2
  clear hb1
  go_wp2_with fail
  refine (k_right FA.out HNA.out HRA.out).mono ?_
  rintro e w2 ⟨rfl, hb2⟩
  have hBz := HB.out.size
  have HB2 := Lib.hid (HB.out.trans (hb2.mono hBz))
  clear HB hBz
  have HB := HB2
  clear HB2
  have HG2 := Lib.hid (HG.out.below hb2)
  clear HG
  have HG := HG2
  clear HG2
  have FA2 := Lib.hid (FA.out.next hb2)
  clear FA
  have FA := FA2
  clear FA2
  have FB2 := Lib.hid (FB.out.next hb2)
  clear FB
  have FB := FB2
  clear FB2
  have FC2 := Lib.hid (FC.out.next hb2)
  clear FC
  have FC := FC2
  clear FC2
  clear hb2
  go_wp2_with fail
  refine (k_join FA.out FB.out HNA.out HNB.out HG.out).mono ?_
  rintro e w3 ⟨⟨A3, c3, hc3, rfl, hr3⟩, hb3⟩
  have hBz := HB.out.size
  have HB2 := Lib.hid (HB.out.trans (hb3.mono hBz))
  clear HB hBz
  have HB := HB2
  clear HB2
  have HG2 := Lib.hid (HG.out.below hb3)
  clear HG
  have HG := HG2
  clear HG2
  have FA2 := Lib.hid (FA.out.next hb3)
  clear FA
  have FA := FA2
  clear FA2
  have FB2 := Lib.hid (FB.out.next hb3)
  clear FB
  have FB := FB2
  clear FB2
  have FC2 := Lib.hid (FC.out.next hb3)
  clear FC
  have FC := FC2
  clear FC2
  clear hb3
  have F1 := Lib.hid hr3
  have F1c := Lib.hid hc3
  clear hr3 hc3
  clear F1
  go_wp2
  go_ret
  exact ⟨rfl, HB.out⟩

set_option maxRecDepth 100000 in
theorem laws_wrong1 (A A' A'' : Option Addr) (n c n' c' n'' c'' : Nat) (xs ys zs : List Int) (w : World) (hfa : RI w w.heap.size A n xs) (hfb : RI w w.heap.size A' n' ys) (hfc : RI w w.heap.size A'' n'' zs) (hn : n ≤ maxLen) (hn' : n' ≤ maxLen) (hn'' : n'' ≤ maxLen) (hg : GlobOk w) (hra : rightB xs = true) (hrb : rightB ys = false) (hq : (((joinL xs ys).length : Int) == 0) = true) :
    Calls Tryd.prog 5 #[.slice A n c, .slice A' n' c', .slice A'' n'' c''] w fun e w' => e = .returned (.bool true) ∧ Below w.heap.size w w' := by
  have FA := Lib.hid hfa
  have FB := Lib.hid hfb
  have FC := Lib.hid hfc
  have HNA := Lib.hid hn
  have HNB := Lib.hid hn'
  have HNC := Lib.hid hn''
  have HG := Lib.hid hg
  have HB := Lib.hid (Below.refl w.heap.size w)
  have HRA := Lib.hid hra
  have HRB := Lib.hid hrb
  clear hfa hfb hfc hn hn' hn'' hg hra hrb
  go_enter Tryd.func5, Tryd.ntmps5
  go_wp2_with fail
  refine (awake_any _ HG.out).mono ?_
  rintro e w1 ⟨rfl, hb1⟩
  have hBz := HB.out.size
  have HB2 := Lib.hid (HB.out.trans (hb1.mono hBz))
  clear HB hBz
  have HB := HB2
  clear HB2
  have HG2 := Lib.hid (HG.out.below hb1)
  clear HG
  have HG := HG2
  clear HG2
  have FA2 := Lib.hid (FA.out.next hb1)
  clear FA
  have FA := FA2
  clear FA2
  have FB2 := Lib.hid (FB.out.next hb1)
  clear FB
  have FB := FB2
  clear FB2
  have FC2 := Lib.hid (FC.out.next hb1)
  clear FC
  have FC := FC2
  clear FC2
  clear hb1
  go_wp2_with fail
  refine (k_right FA.out HNA.out HRA.out).mono ?_
  rintro e w2 ⟨rfl, hb2⟩
  have hBz := HB.out.size
  have HB2 := Lib.hid (HB.out.trans (hb2.mono hBz))
  clear HB hBz
  have HB := HB2
  clear HB2
  have HG2 := Lib.hid (HG.out.below hb2)
  clear HG
  have HG := HG2
  clear HG2
  have FA2 := Lib.hid (FA.out.next hb2)
  clear FA
  have FA := FA2
  clear FA2
  have FB2 := Lib.hid (FB.out.next hb2)
  clear FB
  have FB := FB2
  clear FB2
  have FC2 := Lib.hid (FC.out.next hb2)
  clear FC
  have FC := FC2
  clear FC2
  clear hb2
  go_wp2_with fail
  refine (k_right FB.out HNB.out HRB.out).mono ?_
  rintro e w3 ⟨rfl, hb3⟩
  have hBz := HB.out.size
  have HB2 := Lib.hid (HB.out.trans (hb3.mono hBz))
  clear HB hBz
  have HB := HB2
  clear HB2
  have HG2 := Lib.hid (HG.out.below hb3)
  clear HG
  have HG := HG2
  clear HG2
  have FA2 := Lib.hid (FA.out.next hb3)
  clear FA
  have FA := FA2
  clear FA2
  have FB2 := Lib.hid (FB.out.next hb3)
  clear FB
  have FB := FB2
  clear FB2
  have FC2 := Lib.hid (FC.out.next hb3)
  clear FC
  have FC := FC2
  clear FC2
  clear hb3
  go_wp2_with fail
  refine (k_join FA.out FB.out HNA.out HNB.out HG.out).mono ?_
  rintro e w4 ⟨⟨A4, c4, hc4, rfl, hr4⟩, hb4⟩
  have hBz := HB.out.size
  have HB2 := Lib.hid (HB.out.trans (hb4.mono hBz))
  clear HB hBz
  have HB := HB2
  clear HB2
  have HG2 := Lib.hid (HG.out.below hb4)
  clear HG
  have HG := HG2
  clear HG2
  have FA2 := Lib.hid (FA.out.next hb4)
  clear FA
  have FA := FA2
  clear FA2
  have FB2 := Lib.hid (FB.out.next hb4)
  clear FB
  have FB := FB2
  clear FB2
  have FC2 := Lib.hid (FC.out.next hb4)
  clear FC
  have FC := FC2
  clear FC2
  clear hb4
  have F1 := Lib.hid hr4
  have F1c := Lib.hid hc4
  clear hr4 hc4
  clear F1
  go_wp2
  go_ret
  exact ⟨rfl, HB.out⟩

set_option maxRecDepth 100000 in
theorem laws_wrong2 (A A' A'' : Option Addr) (n c n' c' n'' c'' : Nat) (xs ys zs : List Int) (w : World) (hfa : RI w w.heap.size A n xs) (hfb : RI w w.heap.size A' n' ys) (hfc : RI w w.heap.size A'' n'' zs) (hn : n ≤ maxLen) (hn' : n' ≤ maxLen) (hn'' : n'' ≤ maxLen) (hg : GlobOk w) (hra : rightB xs = true) (hrb : rightB ys = true) (hrc : rightB zs = false) (hq : (((joinL xs ys).length : Int) == 0) = true) :
    Calls Tryd.prog 5 #[.slice A n c, .slice A' n' c', .slice A'' n'' c''] w fun e w' => e = .returned (.bool true) ∧ Below w.heap.size w w' := by
  have FA := Lib.hid hfa
  have FB := Lib.hid hfb
  have FC := Lib.hid hfc
  have HNA := Lib.hid hn
  have HNB := Lib.hid hn'
  have HNC := Lib.hid hn''
  have HG := Lib.hid hg
  have HB := Lib.hid (Below.refl w.heap.size w)
  have HRA := Lib.hid hra
  have HRB := Lib.hid hrb
  have HRC := Lib.hid hrc
  clear hfa hfb hfc hn hn' hn'' hg hra hrb hrc
  go_enter Tryd.func5, Tryd.ntmps5
  go_wp2_with fail
  refine (awake_any _ HG.out).mono ?_
  rintro e w1 ⟨rfl, hb1⟩
  have hBz := HB.out.size
  have HB2 := Lib.hid (HB.out.trans (hb1.mono hBz))
  clear HB hBz
  have HB := HB2
  clear HB2
  have HG2 := Lib.hid (HG.out.below hb1)
  clear HG
  have HG := HG2
  clear HG2
  have FA2 := Lib.hid (FA.out.next hb1)
  clear FA
  have FA := FA2
  clear FA2
  have FB2 := Lib.hid (FB.out.next hb1)
  clear FB
  have FB := FB2
  clear FB2
  have FC2 := Lib.hid (FC.out.next hb1)
  clear FC
  have FC := FC2
  clear FC2
  clear hb1
  go_wp2_with fail
  refine (k_right FA.out HNA.out HRA.out).mono ?_
  rintro e w2 ⟨rfl, hb2⟩
  have hBz := HB.out.size
  have HB2 := Lib.hid (HB.out.trans (hb2.mono hBz))
  clear HB hBz
  have HB := HB2
  clear HB2
  have HG2 := Lib.hid (HG.out.below hb2)
  clear HG
  have HG := HG2
  clear HG2
  have FA2 := Lib.hid (FA.out.next hb2)
  clear FA
  have FA := FA2
  clear FA2
  have FB2 := Lib.hid (FB.out.next hb2)
  clear FB
  have FB := FB2
  clear FB2
  have FC2 := Lib.hid (FC.out.next hb2)
  clear FC
  have FC := FC2
  clear FC2
  clear hb2
  go_wp2_with fail
  refine (k_right FB.out HNB.out HRB.out).mono ?_
  rintro e w3 ⟨rfl, hb3⟩
  have hBz := HB.out.size
  have HB2 := Lib.hid (HB.out.trans (hb3.mono hBz))
  clear HB hBz
  have HB := HB2
  clear HB2
  have HG2 := Lib.hid (HG.out.below hb3)
  clear HG
  have HG := HG2
  clear HG2
  have FA2 := Lib.hid (FA.out.next hb3)
  clear FA
  have FA := FA2
  clear FA2
  have FB2 := Lib.hid (FB.out.next hb3)
  clear FB
  have FB := FB2
  clear FB2
  have FC2 := Lib.hid (FC.out.next hb3)
  clear FC
  have FC := FC2
  clear FC2
  clear hb3
  go_wp2_with fail
  refine (k_right FC.out HNC.out HRC.out).mono ?_
  rintro e w4 ⟨rfl, hb4⟩
  have hBz := HB.out.size
  have HB2 := Lib.hid (HB.out.trans (hb4.mono hBz))
  clear HB hBz
  have HB := HB2
  clear HB2
  have HG2 := Lib.hid (HG.out.below hb4)
  clear HG
  have HG := HG2
  clear HG2
  have FA2 := Lib.hid (FA.out.next hb4)
  clear FA
  have FA := FA2
  clear FA2
  have FB2 := Lib.hid (FB.out.next hb4)
  clear FB
  have FB := FB2
  clear FB2
  have FC2 := Lib.hid (FC.out.next hb4)
  clear FC
  have FC := FC2
  clear FC2
  clear hb4
  go_wp2_with fail
  refine (k_join FA.out FB.out HNA.out HNB.out HG.out).mono ?_
  rintro e w5 ⟨⟨A5, c5, hc5, rfl, hr5⟩, hb5⟩
  have hBz := HB.out.size
  have HB2 := Lib.hid (HB.out.trans (hb5.mono hBz))
  clear HB hBz
  have HB := HB2
  clear HB2
  have HG2 := Lib.hid (HG.out.below hb5)
  clear HG
  have HG := HG2
  clear HG2
  have FA2 := Lib.hid (FA.out.next hb5)
  clear FA
  have FA := FA2
  clear FA2
  have FB2 := Lib.hid (FB.out.next hb5)
  clear FB
  have FB := FB2
  clear FB2
  have FC2 := Lib.hid (FC.out.next hb5)
  clear FC
  have FC := FC2
  clear FC2
  clear hb5
  have F1 := Lib.hid hr5
  have F1c := Lib.hid hc5
  clear hr5 hc5
  clear F1
  go_wp2
  go_ret
  exact ⟨rfl, HB.out⟩

set_option maxRecDepth 100000 in
theorem laws_wrong2f (A A' A'' : Option Addr) (n c n' c' n'' c'' : Nat) (xs ys zs : List Int) (w : World) (hfa : RI w w.heap.size A n xs) (hfb : RI w w.heap.size A' n' ys) (hfc : RI w w.heap.size A'' n'' zs) (hn : n ≤ maxLen) (hn' : n' ≤ maxLen) (hn'' : n'' ≤ maxLen) (hg : GlobOk w) (hra : rightB xs = true) (hrb : rightB ys = true) (hrc : rightB zs = false) (hq : (((joinL xs ys).length : Int) == 0) = false) :
    Calls Tryd.prog 5 #[.slice A n c, .slice A' n' c', .slice A'' n'' c''] w fun e w' => e = .returned (.bool true) ∧ Below w.heap.size w w' := by
  have FA := Lib.hid hfa
  have FB := Lib.hid hfb
  have FC := Lib.hid hfc
  have HNA := Lib.hid hn
  have HNB := Lib.hid hn'
  have HNC := Lib.hid hn''
  have HG := Lib.hid hg
  have HB := Lib.hid (Below.refl w.heap.size w)
  have HRA := Lib.hid hra
  have HRB := Lib.hid hrb
  have HRC := Lib.hid hrc
  clear hfa hfb hfc hn hn' hn'' hg hra hrb hrc
  go_enter Tryd.func5, Tryd.ntmps5
  go_wp2_with fail
  refine (awake_any _ HG.out).mono ?_
  rintro e w1 ⟨rfl, hb1⟩
  have hBz := HB.out.size
  have HB2 := Lib.hid (HB.out.trans (hb1.mono hBz))
  clear HB hBz
  have HB := HB2
  clear HB2
  have HG2 := Lib.hid (HG.out.below hb1)
  clear HG
  have HG := HG2
  clear HG2
  have FA2 := Lib.hid (FA.out.next hb1)
  clear FA
  have FA := FA2
  clear FA2
  have FB2 := Lib.hid (FB.out.next hb1)
  clear FB
  have FB := FB2
  clear FB2
  have FC2 := Lib.hid (FC.out.next hb1)
  clear FC
  have FC := FC2
  clear FC2
  clear hb1
  go_wp2_with fail
  refine (k_right FA.out HNA.out HRA.out).mono ?_
  rintro e w2 ⟨rfl, hb2⟩
  have hBz := HB.out.size
  have HB2 := Lib.hid (HB.out.trans (hb2.mono hBz))
  clear HB hBz
  have HB := HB2
  clear HB2
  have HG2 := Lib.hid (HG.out.below hb2)
  clear HG
  have HG := HG2
  clear HG2
  have FA2 := Lib.hid (FA.out.next hb2)
  clear FA
  have FA := FA2
  clear FA2
  have FB2 := Lib.hid (FB.out.next hb2)
  clear FB
  have FB := FB2
  clear FB2
  have FC2 := Lib.hid (FC.out.next hb2)
  clear FC
  have FC := FC2
  clear FC2
  clear hb2
  go_wp2_with fail
  refine (k_right FB.out HNB.out HRB.out).mono ?_
  rintro e w3 ⟨rfl, hb3⟩
  have hBz := HB.out.size
  have HB2 := Lib.hid (HB.out.trans (hb3.mono hBz))
  clear HB hBz
  have HB := HB2
  clear HB2
  have HG2 := Lib.hid (HG.out.below hb3)
  clear HG
  have HG := HG2
  clear HG2
  have FA2 := Lib.hid (FA.out.next hb3)
  clear FA
  have FA := FA2
  clear FA2
  have FB2 := Lib.hid (FB.out.next hb3)
  clear FB
  have FB := FB2
  clear FB2
  have FC2 := Lib.hid (FC.out.next hb3)
  clear FC
  have FC := FC2
  clear FC2
  clear hb3
  go_wp2_with fail
  refine (k_right FC.out HNC.out HRC.out).mono ?_
  rintro e w4 ⟨rfl, hb4⟩
  have hBz := HB.out.size
  have HB2 := Lib.hid (HB.out.trans (hb4.mono hBz))
  clear HB hBz
  have HB := HB2
  clear HB2
  have HG2 := Lib.hid (HG.out.below hb4)
  clear HG
  have HG := HG2
  clear HG2
  have FA2 := Lib.hid (FA.out.next hb4)
  clear FA
  have FA := FA2
  clear FA2
  have FB2 := Lib.hid (FB.out.next hb4)
  clear FB
  have FB := FB2
  clear FB2
  have FC2 := Lib.hid (FC.out.next hb4)
  clear FC
  have FC := FC2
  clear FC2
  clear hb4
  go_wp2_with fail
  refine (k_join FA.out FB.out HNA.out HNB.out HG.out).mono ?_
  rintro e w5 ⟨⟨A5, c5, hc5, rfl, hr5⟩, hb5⟩
  have hBz := HB.out.size
  have HB2 := Lib.hid (HB.out.trans (hb5.mono hBz))
  clear HB hBz
  have HB := HB2
  clear HB2
  have HG2 := Lib.hid (HG.out.below hb5)
  clear HG
  have HG := HG2
  clear HG2
  have FA2 := Lib.hid (FA.out.next hb5)
  clear FA
  have FA := FA2
  clear FA2
  have FB2 := Lib.hid (FB.out.next hb5)
  clear FB
  have FB := FB2
  clear FB2
  have FC2 := Lib.hid (FC.out.next hb5)
  clear FC
  have FC := FC2
  clear FC2
  clear hb5
  have F1 := Lib.hid hr5
  have F1c := Lib.hid hc5
  clear hr5 hc5
  clear F1
  go_wp2_with fail
  refine (k_right FA.out HNA.out HRA.out).mono ?_
  rintro e w6 ⟨rfl, hb6⟩
  have hBz := HB.out.size
  have HB2 := Lib.hid (HB.out.trans (hb6.mono hBz))
  clear HB hBz
  have HB := HB2
  clear HB2
  have HG2 := Lib.hid (HG.out.below hb6)
  clear HG
  have HG := HG2
  clear HG2
  have FA2 := Lib.hid (FA.out.next hb6)
  clear FA
  have FA := FA2
  clear FA2
  have FB2 := Lib.hid (FB.out.next hb6)
  clear FB
  have FB := FB2
  clear FB2
  have FC2 := Lib.hid (FC.out.next hb6)
  clear FC
  have FC := FC2
  clear FC2
  clear hb6
  go_wp2_with fail
  refine (k_right FB.out HNB.out HRB.out).mono ?_
  rintro e w7 ⟨rfl, hb7⟩
  have hBz := HB.out.size
  have HB2 := Lib.hid (HB.out.trans (hb7.mono hBz))
  clear HB hBz
  have HB := HB2
  clear HB2
  have HG2 := Lib.hid (HG.out.below hb7)
  clear HG
  have HG := HG2
  clear HG2
  have FA2 := Lib.hid (FA.out.next hb7)
  clear FA
  have FA := FA2
  clear FA2
  have FB2 := Lib.hid (FB.out.next hb7)
  clear FB
  have FB := FB2
  clear FB2
  have FC2 := Lib.hid (FC.out.next hb7)
  clear FC
  have FC := FC2
  clear FC2
  clear hb7
  go_wp2
  go_ret
  exact ⟨rfl, HB.out⟩

set_option maxRecDepth 100000 in
set_option maxHeartbeats 8000000 in
theorem laws_right (A A' A'' : Option Addr) (n c n' c' n'' c'' : Nat) (xs ys zs : List Int) (w : World) (hfa : RI w w.heap.size A n xs) (hfb : RI w w.heap.size A' n' ys) (hfc : RI w w.heap.size A'' n'' zs) (hn : n ≤ maxLen) (hn' : n' ≤ maxLen) (hn'' : n'' ≤ maxLen) (hg : GlobOk w) (hra : rightB xs = true) (hrb : rightB ys = true) (hrc : rightB zs = true)
    (hq1 : (meetL xs ys).length ≤ 256) (hq2 : (lessL xs ys).length ≤ 256) (hq3 : (((meetL xs ys).length : Int) + ((lessL xs ys).length : Int) == (n : Int)) = true) :
    Calls Tryd.prog 5 #[.slice A n c, .slice A' n' c', .slice A'' n'' c''] w fun e w' => e = .returned (.bool true) ∧ Below w.heap.size w w' := by
  have FA := Lib.hid hfa
  have FB := Lib.hid hfb
  have FC := Lib.hid hfc
  have HNA := Lib.hid hn
  have HNB := Lib.hid hn'
  have HNC := Lib.hid hn''
  have HG := Lib.hid hg
  have HB := Lib.hid (Below.refl w.heap.size w)
  have HRA := Lib.hid hra
  have HRB := Lib.hid hrb
  have HRC := Lib.hid hrc
  clear hfa hfb hfc hn hn' hn'' hg hra hrb hrc
  go_enter Tryd.func5, Tryd.ntmps5
  go_wp2_with fail
  refine (awake_any _ HG.out).mono ?_
  rintro e w1 ⟨rfl, hb1⟩
  have hBz := HB.out.size
  have HB2 := Lib.hid (HB.out.trans (hb1.mono hBz))
  clear HB hBz
  have HB := HB2
  clear HB2
  have HG2 := Lib.hid (HG.out.below hb1)
  clear HG
  have HG := HG2
  clear HG2
  have FA2 := Lib.hid (FA.out.next hb1)
  clear FA
  have FA := FA2
  clear FA2
  have FB2 := Lib.hid (FB.out.next hb1)
  clear FB
  have FB := FB2
  clear FB2
  have FC2 := Lib.hid (FC.out.next hb1)
  clear FC
  have FC := FC2
  clear FC2
  clear hb1
  go_wp2_with fail
  refine (k_right FA.out HNA.out HRA.out).mono ?_
  rintro e w2 ⟨rfl, hb2⟩
  have hBz := HB.out.size
  have HB2 := Lib.hid (HB.out.trans (hb2.mono hBz))
  clear HB hBz
  have HB := HB2
  clear HB2
  have HG2 := Lib.hid (HG.out.below hb2)
  clear HG
  have HG := HG2
  clear HG2
  have FA2 := Lib.hid (FA.out.next hb2)
  clear FA
  have FA := FA2
  clear FA2
  have FB2 := Lib.hid (FB.out.next hb2)
  clear FB
  have FB := FB2
  clear FB2
  have FC2 := Lib.hid (FC.out.next hb2)
  clear FC
  have FC := FC2
  clear FC2
  clear hb2
  go_wp2_with fail
  refine (k_right FB.out HNB.out HRB.out).mono ?_
  rintro e w3 ⟨rfl, hb3⟩
  have hBz := HB.out.size
  have HB2 := Lib.hid (HB.out.trans (hb3.mono hBz))
  clear HB hBz
  have HB := HB2
  clear HB2
  have HG2 := Lib.hid (HG.out.below hb3)
  clear HG
  have HG := HG2
  clear HG2
  have FA2 := Lib.hid (FA.out.next hb3)
  clear FA
  have FA := FA2
  clear FA2
  have FB2 := Lib.hid (FB.out.next hb3)
  clear FB
  have FB := FB2
  clear FB2
  have FC2 := Lib.hid (FC.out.next hb3)
  clear FC
  have FC := FC2
  clear FC2
  clear hb3
  go_wp2_with fail
  refine (k_right FC.out HNC.out HRC.out).mono ?_
  rintro e w4 ⟨rfl, hb4⟩
  have hBz := HB.out.size
  have HB2 := Lib.hid (HB.out.trans (hb4.mono hBz))
  clear HB hBz
  have HB := HB2
  clear HB2
  have HG2 := Lib.hid (HG.out.below hb4)
  clear HG
  have HG := HG2
  clear HG2
  have FA2 := Lib.hid (FA.out.next hb4)
  clear FA
  have FA := FA2
  clear FA2
  have FB2 := Lib.hid (FB.out.next hb4)
  clear FB
  have FB := FB2
  clear FB2
  have FC2 := Lib.hid (FC.out.next hb4)
  clear FC
  have FC := FC2
  clear FC2
  clear hb4
  go_wp2_with fail
  refine (k_join FA.out FB.out HNA.out HNB.out HG.out).mono ?_
  rintro e w5 ⟨⟨A5, c5, hc5, rfl, hr5⟩, hb5⟩
  have hBz := HB.out.size
  have HB2 := Lib.hid (HB.out.trans (hb5.mono hBz))
  clear HB hBz
  have HB := HB2
  clear HB2
  have HG2 := Lib.hid (HG.out.below hb5)
  clear HG
  have HG := HG2
  clear HG2
  have FA2 := Lib.hid (FA.out.next hb5)
  clear FA
  have FA := FA2
  clear FA2
  have FB2 := Lib.hid (FB.out.next hb5)
  clear FB
  have FB := FB2
  clear FB2
  have FC2 := Lib.hid (FC.out.next hb5)
  clear FC
  have FC := FC2
  clear FC2
  clear hb5
  have F1 := Lib.hid hr5
  have F1c := Lib.hid hc5
  clear hr5 hc5
  go_wp2_with fail
  refine (k_join FB.out FA.out HNB.out HNA.out HG.out).mono ?_
  rintro e w6 ⟨⟨A6, c6, hc6, rfl, hr6⟩, hb6⟩
  have hBz := HB.out.size
  have HB2 := Lib.hid (HB.out.trans (hb6.mono hBz))
  clear HB hBz
  have HB := HB2
  clear HB2
  have HG2 := Lib.hid (HG.out.below hb6)
  clear HG
  have HG := HG2
  clear HG2
  have FA2 := Lib.hid (FA.out.next hb6)
  clear FA
  have FA := FA2
  clear FA2
  have FB2 := Lib.hid (FB.out.next hb6)
  clear FB
  have FB := FB2
  clear FB2
  have FC2 := Lib.hid (FC.out.next hb6)
  clear FC
  have FC := FC2
  clear FC2
  have F12 := Lib.hid (F1.out.next hb6)
  clear F1
  have F1 := F12
  clear F12
  clear hb6
  have F2 := Lib.hid hr6
  have F2c := Lib.hid hc6
  clear hr6 hc6
  go_wp2_with fail
  refine (k_same F1.out F2.out (ml_join _ _) (ml_join _ _) (join_comm HRA.out HRB.out)).mono ?_
  rintro e w7 ⟨rfl, hb7⟩
  have hBz := HB.out.size
  have HB2 := Lib.hid (HB.out.trans (hb7.mono hBz))
  clear HB hBz
  have HB := HB2
  clear HB2
  have HG2 := Lib.hid (HG.out.below hb7)
  clear HG
  have HG := HG2
  clear HG2
  have FA2 := Lib.hid (FA.out.next hb7)
  clear FA
  have FA := FA2
  clear FA2
  have FB2 := Lib.hid (FB.out.next hb7)
  clear FB
  have FB := FB2
  clear FB2
  have FC2 := Lib.hid (FC.out.next hb7)
  clear FC
  have FC := FC2
  clear FC2
  have F12 := Lib.hid (F1.out.next hb7)
  clear F1
  have F1 := F12
  clear F12
  have F22 := Lib.hid (F2.out.next hb7)
  clear F2
  have F2 := F22
  clear F22
  clear hb7
  clear F1
  clear F2
  go_wp2_with fail
  refine (k_meet FA.out FB.out HNA.out HNB.out HG.out).mono ?_
  rintro e w8 ⟨⟨A8, c8, hc8, rfl, hr8⟩, hb8⟩
  have hBz := HB.out.size
  have HB2 := Lib.hid (HB.out.trans (hb8.mono hBz))
  clear HB hBz
  have HB := HB2
  clear HB2
  have HG2 := Lib.hid (HG.out.below hb8)
  clear HG
  have HG := HG2
  clear HG2
  have FA2 := Lib.hid (FA.out.next hb8)
  clear FA
  have FA := FA2
  clear FA2
  have FB2 := Lib.hid (FB.out.next hb8)
  clear FB
  have FB := FB2
  clear FB2
  have FC2 := Lib.hid (FC.out.next hb8)
  clear FC
  have FC := FC2
  clear FC2
  clear hb8
  have F1 := Lib.hid hr8
  have F1c := Lib.hid hc8
  clear hr8 hc8
  go_wp2_with fail
  refine (k_meet FB.out FA.out HNB.out HNA.out HG.out).mono ?_
  rintro e w9 ⟨⟨A9, c9, hc9, rfl, hr9⟩, hb9⟩
  have hBz := HB.out.size
  have HB2 := Lib.hid (HB.out.trans (hb9.mono hBz))
  clear HB hBz
  have HB := HB2
  clear HB2
  have HG2 := Lib.hid (HG.out.below hb9)
  clear HG
  have HG := HG2
  clear HG2
  have FA2 := Lib.hid (FA.out.next hb9)
  clear FA
  have FA := FA2
  clear FA2
  have FB2 := Lib.hid (FB.out.next hb9)
  clear FB
  have FB := FB2
  clear FB2
  have FC2 := Lib.hid (FC.out.next hb9)
  clear FC
  have FC := FC2
  clear FC2
  have F12 := Lib.hid (F1.out.next hb9)
  clear F1
  have F1 := F12
  clear F12
  clear hb9
  have F2 := Lib.hid hr9
  have F2c := Lib.hid hc9
  clear hr9 hc9
  go_wp2_with fail
  refine (k_same F1.out F2.out (ml_meet _ _) (ml_meet _ _) (meet_comm HRA.out HRB.out)).mono ?_
  rintro e w10 ⟨rfl, hb10⟩
  have hBz := HB.out.size
  have HB2 := Lib.hid (HB.out.trans (hb10.mono hBz))
  clear HB hBz
  have HB := HB2
  clear HB2
  have HG2 := Lib.hid (HG.out.below hb10)
  clear HG
  have HG := HG2
  clear HG2
  have FA2 := Lib.hid (FA.out.next hb10)
  clear FA
  have FA := FA2
  clear FA2
  have FB2 := Lib.hid (FB.out.next hb10)
  clear FB
  have FB := FB2
  clear FB2
  have FC2 := Lib.hid (FC.out.next hb10)
  clear FC
  have FC := FC2
  clear FC2
  have F12 := Lib.hid (F1.out.next hb10)
  clear F1
  have F1 := F12
  clear F12
  have F22 := Lib.hid (F2.out.next hb10)
  clear F2
  have F2 := F22
  clear F22
  clear hb10
  clear F1
  clear F2
  go_wp2_with fail
  refine (k_join FB.out FC.out HNB.out HNC.out HG.out).mono ?_
  rintro e w11 ⟨⟨A11, c11, hc11, rfl, hr11⟩, hb11⟩
  have hBz := HB.out.size
  have HB2 := Lib.hid (HB.out.trans (hb11.mono hBz))
  clear HB hBz
  have HB := HB2
  clear HB2
  have HG2 := Lib.hid (HG.out.below hb11)
  clear HG
  have HG := HG2
  clear HG2
  have FA2 := Lib.hid (FA.out.next hb11)
  clear FA
  have FA := FA2
  clear FA2
  have FB2 := Lib.hid (FB.out.next hb11)
  clear FB
  have FB := FB2
  clear FB2
  have FC2 := Lib.hid (FC.out.next hb11)
  clear FC
  have FC := FC2
  clear FC2
  clear hb11
  have F1 := Lib.hid hr11
  have F1c := Lib.hid hc11
  clear hr11 hc11
  go_wp2_with fail
  refine (k_join FA.out F1.out HNA.out (ml_join _ _) HG.out).mono ?_
  rintro e w12 ⟨⟨A12, c12, hc12, rfl, hr12⟩, hb12⟩
  have hBz := HB.out.size
  have HB2 := Lib.hid (HB.out.trans (hb12.mono hBz))
  clear HB hBz
  have HB := HB2
  clear HB2
  have HG2 := Lib.hid (HG.out.below hb12)
  clear HG
  have HG := HG2
  clear HG2
  have FA2 := Lib.hid (FA.out.next hb12)
  clear FA
  have FA := FA2
  clear FA2
  have FB2 := Lib.hid (FB.out.next hb12)
  clear FB
  have FB := FB2
  clear FB2
  have FC2 := Lib.hid (FC.out.next hb12)
  clear FC
  have FC := FC2
  clear FC2
  have F12 := Lib.hid (F1.out.next hb12)
  clear F1
  have F1 := F12
  clear F12
  clear hb12
  have F2 := Lib.hid hr12
  have F2c := Lib.hid hc12
  clear hr12 hc12
  clear F1
  go_wp2_with fail
  refine (k_join FA.out FB.out HNA.out HNB.out HG.out).mono ?_
  rintro e w13 ⟨⟨A13, c13, hc13, rfl, hr13⟩, hb13⟩
  have hBz := HB.out.size
  have HB2 := Lib.hid (HB.out.trans (hb13.mono hBz))
  clear HB hBz
  have HB := HB2
  clear HB2
  have HG2 := Lib.hid (HG.out.below hb13)
  clear HG
  have HG := HG2
  clear HG2
  have FA2 := Lib.hid (FA.out.next hb13)
  clear FA
  have FA := FA2
  clear FA2
  have FB2 := Lib.hid (FB.out.next hb13)
  clear FB
  have FB := FB2
  clear FB2
  have FC2 := Lib.hid (FC.out.next hb13)
  clear FC
  have FC := FC2
  clear FC2
  have F22 := Lib.hid (F2.out.next hb13)
  clear F2
  have F2 := F22
  clear F22
  clear hb13
  have F1 := Lib.hid hr13
  have F1c := Lib.hid hc13
  clear hr13 hc13
  go_wp2_with fail
  refine (k_join F1.out FC.out (ml_join _ _) HNC.out HG.out).mono ?_
  rintro e w14 ⟨⟨A14, c14, hc14, rfl, hr14⟩, hb14⟩
  have hBz := HB.out.size
  have HB2 := Lib.hid (HB.out.trans (hb14.mono hBz))
  clear HB hBz
  have HB := HB2
  clear HB2
  have HG2 := Lib.hid (HG.out.below hb14)
  clear HG
  have HG := HG2
  clear HG2
  have FA2 := Lib.hid (FA.out.next hb14)
  clear FA
  have FA := FA2
  clear FA2
  have FB2 := Lib.hid (FB.out.next hb14)
  clear FB
  have FB := FB2
  clear FB2
  have FC2 := Lib.hid (FC.out.next hb14)
  clear FC
  have FC := FC2
  clear FC2
  have F22 := Lib.hid (F2.out.next hb14)
  clear F2
  have F2 := F22
  clear F22
  have F12 := Lib.hid (F1.out.next hb14)
  clear F1
  have F1 := F12
  clear F12
  clear hb14
  have F3 := Lib.hid hr14
  have F3c := Lib.hid hc14
  clear hr14 hc14
  clear F1
  go_wp2_with fail
  refine (k_same F2.out F3.out (ml_join _ _) (ml_join _ _) (join_assoc HRA.out HRB.out HRC.out)).mono ?_
  rintro e w15 ⟨rfl, hb15⟩
  have hBz := HB.out.size
  have HB2 := Lib.hid (HB.out.trans (hb15.mono hBz))
  clear HB hBz
  have HB := HB2
  clear HB2
  have HG2 := Lib.hid (HG.out.below hb15)
  clear HG
  have HG := HG2
  clear HG2
  have FA2 := Lib.hid (FA.out.next hb15)
  clear FA
  have FA := FA2
  clear FA2
  have FB2 := Lib.hid (FB.out.next hb15)
  clear FB
  have FB := FB2
  clear FB2
  have FC2 := Lib.hid (FC.out.next hb15)
  clear FC
  have FC := FC2
  clear FC2
  have F22 := Lib.hid (F2.out.next hb15)
  clear F2
  have F2 := F22
  clear F22
  have F32 := Lib.hid (F3.out.next hb15)
  clear F3
  have F3 := F32
  clear F32
  clear hb15
  clear F2
  clear F3
  go_wp2_with fail
  refine (k_meet FA.out FB.out HNA.out HNB.out HG.out).mono ?_
  rintro e w16 ⟨⟨A16, c16, hc16, rfl, hr16⟩, hb16⟩
  have hBz := HB.out.size
  have HB2 := Lib.hid (HB.out.trans (hb16.mono hBz))
  clear HB hBz
  have HB := HB2
  clear HB2
  have HG2 := Lib.hid (HG.out.below hb16)
  clear HG
  have HG := HG2
  clear HG2
  have FA2 := Lib.hid (FA.out.next hb16)
  clear FA
  have FA := FA2
  clear FA2
  have FB2 := Lib.hid (FB.out.next hb16)
  clear FB
  have FB := FB2
  clear FB2
  have FC2 := Lib.hid (FC.out.next hb16)
  clear FC
  have FC := FC2
  clear FC2
  clear hb16
  have FM := Lib.hid hr16
  have FMc := Lib.hid hc16
  clear hr16 hc16
  go_wp2_with fail
  refine (k_less FA.out FB.out HNA.out HNB.out HG.out).mono ?_
  rintro e w17 ⟨⟨A17, c17, hc17, rfl, hr17⟩, hb17⟩
  have hBz := HB.out.size
  have HB2 := Lib.hid (HB.out.trans (hb17.mono hBz))
  clear HB hBz
  have HB := HB2
  clear HB2
  have HG2 := Lib.hid (HG.out.below hb17)
  clear HG
  have HG := HG2
  clear HG2
  have FA2 := Lib.hid (FA.out.next hb17)
  clear FA
  have FA := FA2
  clear FA2
  have FB2 := Lib.hid (FB.out.next hb17)
  clear FB
  have FB := FB2
  clear FB2
  have FC2 := Lib.hid (FC.out.next hb17)
  clear FC
  have FC := FC2
  clear FC2
  have FM2 := Lib.hid (FM.out.next hb17)
  clear FM
  have FM := FM2
  clear FM2
  clear hb17
  have FL := Lib.hid hr17
  have FLc := Lib.hid hc17
  clear hr17 hc17
  go_wp2_with fail
  refine (k_join FM.out FL.out (ml_meet _ _) (ml_less _ _) HG.out).mono ?_
  rintro e w18 ⟨⟨A18, c18, hc18, rfl, hr18⟩, hb18⟩
  have hBz := HB.out.size
  have HB2 := Lib.hid (HB.out.trans (hb18.mono hBz))
  clear HB hBz
  have HB := HB2
  clear HB2
  have HG2 := Lib.hid (HG.out.below hb18)
  clear HG
  have HG := HG2
  clear HG2
  have FA2 := Lib.hid (FA.out.next hb18)
  clear FA
  have FA := FA2
  clear FA2
  have FB2 := Lib.hid (FB.out.next hb18)
  clear FB
  have FB := FB2
  clear FB2
  have FC2 := Lib.hid (FC.out.next hb18)
  clear FC
  have FC := FC2
  clear FC2
  have FM2 := Lib.hid (FM.out.next hb18)
  clear FM
  have FM := FM2
  clear FM2
  have FL2 := Lib.hid (FL.out.next hb18)
  clear FL
  have FL := FL2
  clear FL2
  clear hb18
  have F1 := Lib.hid hr18
  have F1c := Lib.hid hc18
  clear hr18 hc18
  go_wp2_with fail
  refine (k_same F1.out FA.out (ml_join _ _) HNA.out (join_back HRA.out HRB.out)).mono ?_
  rintro e w19 ⟨rfl, hb19⟩
  have hBz := HB.out.size
  have HB2 := Lib.hid (HB.out.trans (hb19.mono hBz))
  clear HB hBz
  have HB := HB2
  clear HB2
  have HG2 := Lib.hid (HG.out.below hb19)
  clear HG
  have HG := HG2
  clear HG2
  have FA2 := Lib.hid (FA.out.next hb19)
  clear FA
  have FA := FA2
  clear FA2
  have FB2 := Lib.hid (FB.out.next hb19)
  clear FB
  have FB := FB2
  clear FB2
  have FC2 := Lib.hid (FC.out.next hb19)
  clear FC
  have FC := FC2
  clear FC2
  have FM2 := Lib.hid (FM.out.next hb19)
  clear FM
  have FM := FM2
  clear FM2
  have FL2 := Lib.hid (FL.out.next hb19)
  clear FL
  have FL := FL2
  clear FL2
  have F12 := Lib.hid (F1.out.next hb19)
  clear F1
  have F1 := F12
  clear F12
  clear hb19
  clear F1
  go_wp2_with fail
  refine (k_apart FM.out FL.out (ml_meet _ _) (ml_less _ _) (apart_meet_less HRA.out HRB.out)).mono ?_
  rintro e w20 ⟨rfl, hb20⟩
  have hBz := HB.out.size
  have HB2 := Lib.hid (HB.out.trans (hb20.mono hBz))
  clear HB hBz
  have HB := HB2
  clear HB2
  have HG2 := Lib.hid (HG.out.below hb20)
  clear HG
  have HG := HG2
  clear HG2
  have FA2 := Lib.hid (FA.out.next hb20)
  clear FA
  have FA := FA2
  clear FA2
  have FB2 := Lib.hid (FB.out.next hb20)
  clear FB
  have FB := FB2
  clear FB2
  have FC2 := Lib.hid (FC.out.next hb20)
  clear FC
  have FC := FC2
  clear FC2
  have FM2 := Lib.hid (FM.out.next hb20)
  clear FM
  have FM := FM2
  clear FM2
  have FL2 := Lib.hid (FL.out.next hb20)
  clear FL
  have FL := FL2
  clear FL2
  clear hb20
  go_wp2_with fail
  refine (k_apart FL.out FB.out (ml_less _ _) HNB.out (apart_less HRA.out HRB.out)).mono ?_
  rintro e w21 ⟨rfl, hb21⟩
  have hBz := HB.out.size
  have HB2 := Lib.hid (HB.out.trans (hb21.mono hBz))
  clear HB hBz
  have HB := HB2
  clear HB2
  have HG2 := Lib.hid (HG.out.below hb21)
  clear HG
  have HG := HG2
  clear HG2
  have FA2 := Lib.hid (FA.out.next hb21)
  clear FA
  have FA := FA2
  clear FA2
  have FB2 := Lib.hid (FB.out.next hb21)
  clear FB
  have FB := FB2
  clear FB2
  have FC2 := Lib.hid (FC.out.next hb21)
  clear FC
  have FC := FC2
  clear FC2
  have FM2 := Lib.hid (FM.out.next hb21)
  clear FM
  have FM := FM2
  clear FM2
  have FL2 := Lib.hid (FL.out.next hb21)
  clear FL
  have FL := FL2
  clear FL2
  clear hb21
  go_wp2_with fail
  refine (k_part FM.out FB.out (ml_meet _ _) HNB.out (part_meet HRA.out HRB.out)).mono ?_
  rintro e w22 ⟨rfl, hb22⟩
  have hBz := HB.out.size
  have HB2 := Lib.hid (HB.out.trans (hb22.mono hBz))
  clear HB hBz
  have HB := HB2
  clear HB2
  have HG2 := Lib.hid (HG.out.below hb22)
  clear HG
  have HG := HG2
  clear HG2
  have FA2 := Lib.hid (FA.out.next hb22)
  clear FA
  have FA := FA2
  clear FA2
  have FB2 := Lib.hid (FB.out.next hb22)
  clear FB
  have FB := FB2
  clear FB2
  have FC2 := Lib.hid (FC.out.next hb22)
  clear FC
  have FC := FC2
  clear FC2
  have FM2 := Lib.hid (FM.out.next hb22)
  clear FM
  have FM := FM2
  clear FM2
  have FL2 := Lib.hid (FL.out.next hb22)
  clear FL
  have FL := FL2
  clear FL2
  clear hb22
  go_wp2_with fail
  refine (k_join FA.out FC.out HNA.out HNC.out HG.out).mono ?_
  rintro e w23 ⟨⟨A23, c23, hc23, rfl, hr23⟩, hb23⟩
  have hBz := HB.out.size
  have HB2 := Lib.hid (HB.out.trans (hb23.mono hBz))
  clear HB hBz
  have HB := HB2
  clear HB2
  have HG2 := Lib.hid (HG.out.below hb23)
  clear HG
  have HG := HG2
  clear HG2
  have FA2 := Lib.hid (FA.out.next hb23)
  clear FA
  have FA := FA2
  clear FA2
  have FB2 := Lib.hid (FB.out.next hb23)
  clear FB
  have FB := FB2
  clear FB2
  have FC2 := Lib.hid (FC.out.next hb23)
  clear FC
  have FC := FC2
  clear FC2
  have FM2 := Lib.hid (FM.out.next hb23)
  clear FM
  have FM := FM2
  clear FM2
  have FL2 := Lib.hid (FL.out.next hb23)
  clear FL
  have FL := FL2
  clear FL2
  clear hb23
  have F1 := Lib.hid hr23
  have F1c := Lib.hid hc23
  clear hr23 hc23
  go_wp2_with fail
  refine (k_part FA.out F1.out HNA.out (ml_join _ _) (part_join HRA.out HRC.out)).mono ?_
  rintro e w24 ⟨rfl, hb24⟩
  have hBz := HB.out.size
  have HB2 := Lib.hid (HB.out.trans (hb24.mono hBz))
  clear HB hBz
  have HB := HB2
  clear HB2
  have HG2 := Lib.hid (HG.out.below hb24)
  clear HG
  have HG := HG2
  clear HG2
  have FA2 := Lib.hid (FA.out.next hb24)
  clear FA
  have FA := FA2
  clear FA2
  have FB2 := Lib.hid (FB.out.next hb24)
  clear FB
  have FB := FB2
  clear FB2
  have FC2 := Lib.hid (FC.out.next hb24)
  clear FC
  have FC := FC2
  clear FC2
  have FM2 := Lib.hid (FM.out.next hb24)
  clear FM
  have FM := FM2
  clear FM2
  have FL2 := Lib.hid (FL.out.next hb24)
  clear FL
  have FL := FL2
  clear FL2
  have F12 := Lib.hid (F1.out.next hb24)
  clear F1
  have F1 := F12
  clear F12
  clear hb24
  clear F1
  go_wp2
  go_ret
  exact ⟨rfl, HB.out⟩

/-- SetLaws, whatever the input. -/
theorem setLaws_walk (A A' A'' : Option Addr) (n c n' c' n'' c'' : Nat) (xs ys zs : List Int) (w : World) (hfa : RI w w.heap.size A n xs) (hfb : RI w w.heap.size A' n' ys) (hfc : RI w w.heap.size A'' n'' zs)
    (_ : A = none → c = 0) (_ : A' = none → c' = 0) (_ : A'' = none → c'' = 0) (_ : n ≤ c) (_ : n' ≤ c') (_ : n'' ≤ c'') (hn : n ≤ maxLen) (hn' : n' ≤ maxLen) (hn'' : n'' ≤ maxLen) (hg : GlobOk w) :
    Calls Tryd.prog 5 #[.slice A n c, .slice A' n' c', .slice A'' n'' c''] w fun e w' => e = .returned (.bool true) ∧ Below w.heap.size w w' := by
  cases hra : rightB xs with
  | false => exact laws_wrong0 A A' A'' n c n' c' n'' c'' xs ys zs w hfa hfb hfc hn hn' hn'' hg hra (by unfold joinL; rw [whichL_wrong (by rw [hra]; rfl)]; rfl)
  | true =>
    cases hrb : rightB ys with
    | false => exact laws_wrong1 A A' A'' n c n' c' n'' c'' xs ys zs w hfa hfb hfc hn hn' hn'' hg hra hrb (by unfold joinL; rw [whichL_wrong (by rw [hra, hrb]; rfl)]; rfl)
    | true =>
      cases hrc : rightB zs with
      | false =>
        cases hq : (((joinL xs ys).length : Int) == 0) with
        | true => exact laws_wrong2 A A' A'' n c n' c' n'' c'' xs ys zs w hfa hfb hfc hn hn' hn'' hg hra hrb hrc hq
        | false => exact laws_wrong2f A A' A'' n c n' c' n'' c'' xs ys zs w hfa hfb hfc hn hn' hn'' hg hra hrb hrc hq
      | true =>
        refine laws_right A A' A'' n c n' c' n'' c'' xs ys zs w hfa hfb hfc hn hn' hn'' hg hra hrb hrc (length_whichL 1 _ _) (length_whichL 2 _ _) ?_
        have := meet_less_length hra hrb
        have := hfa.1
        rw [beq_iff_eq]
        omega

end Go.Proofs.YtgifhbjcelkjkaaDoor
