/- The statement SetBack, as a walk: of any list of int and any text the call returns true and keeps all that was there. -/
import Derived.Test.YtgifhbjcelkjkaaDoorSetKit2
namespace Go.Proofs.YtgifhbjcelkjkaaDoor
open Go.RowKit Go.Shelf

theorem cut_le (s : ByteArray) : (s.extract 0 (min (s.size : Int) 2000).toNat).size ≤ 2000 := by
  simp only [ByteArray.size_extract]
  omega
theorem back_show {xs : List Int} (h : rightB xs = true) : (ShowB xs).size ≤ 8192 ∧ parseL (ShowB xs).data.toList = (xs, 0) := by
  unfold ShowB
  rw [if_pos h]
  have := show_length h
  exact ⟨by show (showL xs).toArray.size ≤ 8192; simp; omega, parse_show h⟩
theorem show_back {t : ByteArray} {l : List Int} (h : parseL t.data.toList = (l, 0)) : rightB l = true ∧ ShowB l = t := by
  have := parseL_ok (t := t.data.toList) (by rw [h])
  rw [h] at this
  refine ⟨this.1, ?_⟩
  unfold ShowB
  rw [if_pos this.1, this.2]

set_option maxRecDepth 100000 in
set_option maxHeartbeats 8000000 in
theorem back_right_ok (A : Option Addr) (n c : Nat) (xs : List Int) (s : ByteArray) (w : World) (hfa : RI w w.heap.size A n xs) (hnc : n ≤ c) (hn : n ≤ maxLen) (hs : s.size ≤ maxLen) (hg : GlobOk w) (l : List Int) (hrx : rightB xs = true) (hp : parseL (s.extract 0 (min (s.size : Int) 2000).toNat).data.toList = (l, 0)) :
    Calls Tryd.prog 6 #[.slice A n c, .string s] w fun e w' => e = .returned (.bool true) ∧ Below w.heap.size w w' := by
  have FA := Lib.hid hfa
  have HG := Lib.hid hg
  have HB := Lib.hid (Below.refl w.heap.size w)
  have HN := Lib.hid hn
  have HNC := Lib.hid hnc
  have HRX := Lib.hid hrx
  have HP := Lib.hid hp
  unfold maxLen at hs
  clear hfa hg hrx hp hn hnc
  go_enter Tryd.func6, Tryd.ntmps6
  go_wp2_with fail
  refine (awake_any _ HG.out).mono ?_
  rintro e w1 ⟨rfl, hb1⟩
  have hBz := HB.out.size
  have HB2 := Lib.hid (HB.out.trans (hb1.mono hBz))
  clear HB hBz
  have HB := HB2
  clear HB2
  have HG2 := Lib.hid (HG.out.below hb1)
  clear HG
  have HG := HG2
  clear HG2
  have FA2 := Lib.hid (FA.out.next hb1)
  clear FA
  have FA := FA2
  clear FA2
  clear hb1
  go_wp2_with fail
  refine (k_right FA.out HN.out HRX.out).mono ?_
  rintro e w2 ⟨rfl, hb2⟩
  have hBz := HB.out.size
  have HB2 := Lib.hid (HB.out.trans (hb2.mono hBz))
  clear HB hBz
  have HB := HB2
  clear HB2
  have HG2 := Lib.hid (HG.out.below hb2)
  clear HG
  have HG := HG2
  clear HG2
  have FA2 := Lib.hid (FA.out.next hb2)
  clear FA
  have FA := FA2
  clear FA2
  clear hb2
  go_wp2_with fail
  refine (k_show FA.out HN.out HNC.out HG.out rfl).mono ?_
  rintro e w3 ⟨rfl, hb3⟩
  have hBz := HB.out.size
  have HB2 := Lib.hid (HB.out.trans (hb3.mono hBz))
  clear HB hBz
  have HB := HB2
  clear HB2
  have HG2 := Lib.hid (HG.out.below hb3)
  clear HG
  have HG := HG2
  clear HG2
  have FA2 := Lib.hid (FA.out.next hb3)
  clear FA
  have FA := FA2
  clear FA2
  clear hb3
  go_wp2_with fail
  refine (k_parse (back_show HRX.out).1 HG.out (back_show HRX.out).2).mono ?_
  rintro e w4 ⟨⟨A4, c4, hc4, rfl, hr4⟩, hb4⟩
  have hBz := HB.out.size
  have HB2 := Lib.hid (HB.out.trans (hb4.mono hBz))
  clear HB hBz
  have HB := HB2
  clear HB2
  have HG2 := Lib.hid (HG.out.below hb4)
  clear HG
  have HG := HG2
  clear HG2
  have FA2 := Lib.hid (FA.out.next hb4)
  clear FA
  have FA := FA2
  clear FA2
  clear hb4
  have F1 := Lib.hid hr4
  have F1c := Lib.hid hc4
  clear hr4 hc4
  go_wp2_with fail
  refine (k_same F1.out FA.out (ml256 (right_length HRX.out)) HN.out rfl).mono ?_
  rintro e w5 ⟨rfl, hb5⟩
  have hBz := HB.out.size
  have HB2 := Lib.hid (HB.out.trans (hb5.mono hBz))
  clear HB hBz
  have HB := HB2
  clear HB2
  have HG2 := Lib.hid (HG.out.below hb5)
  clear HG
  have HG := HG2
  clear HG2
  have FA2 := Lib.hid (FA.out.next hb5)
  clear FA
  have FA := FA2
  clear FA2
  have F12 := Lib.hid (F1.out.next hb5)
  clear F1
  have F1 := F12
  clear F12
  clear hb5
  clear F1
  go_wp2_with fail
  have hts := cut_le s
  generalize s.extract 0 (min (s.size : Int) 2000).toNat = t at hts HP ⊢
  refine (k_parse (by omega) HG.out HP.out).mono ?_
  rintro e w6 ⟨⟨A6, c6, hc6, rfl, hr6⟩, hb6⟩
  have hBz := HB.out.size
  have HB2 := Lib.hid (HB.out.trans (hb6.mono hBz))
  clear HB hBz
  have HB := HB2
  clear HB2
  have HG2 := Lib.hid (HG.out.below hb6)
  clear HG
  have HG := HG2
  clear HG2
  have FA2 := Lib.hid (FA.out.next hb6)
  clear FA
  have FA := FA2
  clear FA2
  clear hb6
  have FL := Lib.hid hr6
  have FLc := Lib.hid hc6
  clear hr6 hc6
  go_wp2_with fail
  refine (k_right FL.out (ml256 (right_length (show_back HP.out).1)) (show_back HP.out).1).mono ?_
  rintro e w7 ⟨rfl, hb7⟩
  have hBz := HB.out.size
  have HB2 := Lib.hid (HB.out.trans (hb7.mono hBz))
  clear HB hBz
  have HB := HB2
  clear HB2
  have HG2 := Lib.hid (HG.out.below hb7)
  clear HG
  have HG := HG2
  clear HG2
  have FA2 := Lib.hid (FA.out.next hb7)
  clear FA
  have FA := FA2
  clear FA2
  have FL2 := Lib.hid (FL.out.next hb7)
  clear FL
  have FL := FL2
  clear FL2
  clear hb7
  go_wp2_with fail
  refine (k_show FL.out (ml256 (right_length (show_back HP.out).1)) FLc.out HG.out (show_back HP.out).2).mono ?_
  rintro e w8 ⟨rfl, hb8⟩
  have hBz := HB.out.size
  have HB2 := Lib.hid (HB.out.trans (hb8.mono hBz))
  clear HB hBz
  have HB := HB2
  clear HB2
  have HG2 := Lib.hid (HG.out.below hb8)
  clear HG
  have HG := HG2
  clear HG2
  have FA2 := Lib.hid (FA.out.next hb8)
  clear FA
  have FA := FA2
  clear FA2
  have FL2 := Lib.hid (FL.out.next hb8)
  clear FL
  have FL := FL2
  clear FL2
  clear hb8
  go_wp2
  go_ret
  exact ⟨rfl, HB.out⟩

set_option maxRecDepth 100000 in
set_option maxHeartbeats 8000000 in
theorem back_wrong_ok (A : Option Addr) (n c : Nat) (xs : List Int) (s : ByteArray) (w : World) (hfa : RI w w.heap.size A n xs) (hnc : n ≤ c) (hn : n ≤ maxLen) (hs : s.size ≤ maxLen) (hg : GlobOk w) (l : List Int) (hrx : rightB xs = false) (hp : parseL (s.extract 0 (min (s.size : Int) 2000).toNat).data.toList = (l, 0)) :
    Calls Tryd.prog 6 #[.slice A n c, .string s] w fun e w' => e = .returned (.bool true) ∧ Below w.heap.size w w' := by
  have FA := Lib.hid hfa
  have HG := Lib.hid hg
  have HB := Lib.hid (Below.refl w.heap.size w)
  have HN := Lib.hid hn
  have HNC := Lib.hid hnc
  have HRX := Lib.hid hrx
  have HP := Lib.hid hp
  unfold maxLen at hs
  clear hfa hg hrx hp hn hnc
  go_enter Tryd.func6, Tryd.ntmps6
  go_wp2_with fail
  refine (awake_any _ HG.out).mono ?_
  rintro e w1 ⟨rfl, hb1⟩
  have hBz := HB.out.size
  have HB2 := Lib.hid (HB.out.trans (hb1.mono hBz))
  clear HB hBz
  have HB := HB2
  clear HB2
  have HG2 := Lib.hid (HG.out.below hb1)
  clear HG
  have HG := HG2
  clear HG2
  have FA2 := Lib.hid (FA.out.next hb1)
  clear FA
  have FA := FA2
  clear FA2
  clear hb1
  go_wp2_with fail
  refine (k_right FA.out HN.out HRX.out).mono ?_
  rintro e w2 ⟨rfl, hb2⟩
  have hBz := HB.out.size
  have HB2 := Lib.hid (HB.out.trans (hb2.mono hBz))
  clear HB hBz
  have HB := HB2
  clear HB2
  have HG2 := Lib.hid (HG.out.below hb2)
  clear HG
  have HG := HG2
  clear HG2
  have FA2 := Lib.hid (FA.out.next hb2)
  clear FA
  have FA := FA2
  clear FA2
  clear hb2
  go_wp2_with fail
  have hts := cut_le s
  generalize s.extract 0 (min (s.size : Int) 2000).toNat = t at hts HP ⊢
  refine (k_parse (by omega) HG.out HP.out).mono ?_
  rintro e w3 ⟨⟨A3, c3, hc3, rfl, hr3⟩, hb3⟩
  have hBz := HB.out.size
  have HB2 := Lib.hid (HB.out.trans (hb3.mono hBz))
  clear HB hBz
  have HB := HB2
  clear HB2
  have HG2 := Lib.hid (HG.out.below hb3)
  clear HG
  have HG := HG2
  clear HG2
  have FA2 := Lib.hid (FA.out.next hb3)
  clear FA
  have FA := FA2
  clear FA2
  clear hb3
  have FL := Lib.hid hr3
  have FLc := Lib.hid hc3
  clear hr3 hc3
  go_wp2_with fail
  refine (k_right FL.out (ml256 (right_length (show_back HP.out).1)) (show_back HP.out).1).mono ?_
  rintro e w4 ⟨rfl, hb4⟩
  have hBz := HB.out.size
  have HB2 := Lib.hid (HB.out.trans (hb4.mono hBz))
  clear HB hBz
  have HB := HB2
  clear HB2
  have HG2 := Lib.hid (HG.out.below hb4)
  clear HG
  have HG := HG2
  clear HG2
  have FA2 := Lib.hid (FA.out.next hb4)
  clear FA
  have FA := FA2
  clear FA2
  have FL2 := Lib.hid (FL.out.next hb4)
  clear FL
  have FL := FL2
  clear FL2
  clear hb4
  go_wp2_with fail
  refine (k_show FL.out (ml256 (right_length (show_back HP.out).1)) FLc.out HG.out (show_back HP.out).2).mono ?_
  rintro e w5 ⟨rfl, hb5⟩
  have hBz := HB.out.size
  have HB2 := Lib.hid (HB.out.trans (hb5.mono hBz))
  clear HB hBz
  have HB := HB2
  clear HB2
  have HG2 := Lib.hid (HG.out.below hb5)
  clear HG
  have HG := HG2
  clear HG2
  have FA2 := Lib.hid (FA.out.next hb5)
  clear FA
  have FA := FA2
  clear FA2
  have FL2 := Lib.hid (FL.out.next hb5)
  clear FL
  have FL := FL2
  clear FL2
  clear hb5
  go_wp2
  go_ret
  exact ⟨rfl, HB.out⟩

set_option maxRecDepth 100000 in
set_option maxHeartbeats 8000000 in
theorem back_right_no (A : Option Addr) (n c : Nat) (xs : List Int) (s : ByteArray) (w : World) (hfa : RI w w.heap.size A n xs) (hnc : n ≤ c) (hn : n ≤ maxLen) (hs : s.size ≤ maxLen) (hg : GlobOk w) (er : Int) (hrx : rightB xs = true) (hp : parseL (s.extract 0 (min (s.size : Int) 2000).toNat).data.toList = ([], er)) (he' : (er != 0) = true) :
    Calls Tryd.prog 6 #[.slice A n c, .string s] w fun e w' => e = .returned (.bool true) ∧ Below w.heap.size w w' := by
  have FA := Lib.hid hfa
  have HG := Lib.hid hg
  have HB := Lib.hid (Below.refl w.heap.size w)
  have HN := Lib.hid hn
  have HNC := Lib.hid hnc
  have HRX := Lib.hid hrx
  have HP := Lib.hid hp
  unfold maxLen at hs
  clear hfa hg hrx hp hn hnc
  go_enter Tryd.func6, Tryd.ntmps6
  go_wp2_with fail
  refine (awake_any _ HG.out).mono ?_
  rintro e w1 ⟨rfl, hb1⟩
  have hBz := HB.out.size
  have HB2 := Lib.hid (HB.out.trans (hb1.mono hBz))
  clear HB hBz
  have HB := HB2
  clear HB2
  have HG2 := Lib.hid (HG.out.below hb1)
  clear HG
  have HG := HG2
  clear HG2
  have FA2 := Lib.hid (FA.out.next hb1)
  clear FA
  have FA := FA2
  clear FA2
  clear hb1
  go_wp2_with fail
  refine (k_right FA.out HN.out HRX.out).mono ?_
  rintro e w2 ⟨rfl, hb2⟩
  have hBz := HB.out.size
  have HB2 := Lib.hid (HB.out.trans (hb2.mono hBz))
  clear HB hBz
  have HB := HB2
  clear HB2
  have HG2 := Lib.hid (HG.out.below hb2)
  clear HG
  have HG := HG2
  clear HG2
  have FA2 := Lib.hid (FA.out.next hb2)
  clear FA
  have FA := FA2
  clear FA2
  clear hb2
  go_wp2_with fail
  refine (k_show FA.out HN.out HNC.out HG.out rfl).mono ?_
  rintro e w3 ⟨rfl, hb3⟩
  have hBz := HB.out.size
  have HB2 := Lib.hid (HB.out.trans (hb3.mono hBz))
  clear HB hBz
  have HB := HB2
  clear HB2
  have HG2 := Lib.hid (HG.out.below hb3)
  clear HG
  have HG := HG2
  clear HG2
  have FA2 := Lib.hid (FA.out.next hb3)
  clear FA
  have FA := FA2
  clear FA2
  clear hb3
  go_wp2_with fail
  refine (k_parse (back_show HRX.out).1 HG.out (back_show HRX.out).2).mono ?_
  rintro e w4 ⟨⟨A4, c4, hc4, rfl, hr4⟩, hb4⟩
  have hBz := HB.out.size
  have HB2 := Lib.hid (HB.out.trans (hb4.mono hBz))
  clear HB hBz
  have HB := HB2
  clear HB2
  have HG2 := Lib.hid (HG.out.below hb4)
  clear HG
  have HG := HG2
  clear HG2
  have FA2 := Lib.hid (FA.out.next hb4)
  clear FA
  have FA := FA2
  clear FA2
  clear hb4
  have F1 := Lib.hid hr4
  have F1c := Lib.hid hc4
  clear hr4 hc4
  go_wp2_with fail
  refine (k_same F1.out FA.out (ml256 (right_length HRX.out)) HN.out rfl).mono ?_
  rintro e w5 ⟨rfl, hb5⟩
  have hBz := HB.out.size
  have HB2 := Lib.hid (HB.out.trans (hb5.mono hBz))
  clear HB hBz
  have HB := HB2
  clear HB2
  have HG2 := Lib.hid (HG.out.below hb5)
  clear HG
  have HG := HG2
  clear HG2
  have FA2 := Lib.hid (FA.out.next hb5)
  clear FA
  have FA := FA2
  clear FA2
  have F12 := Lib.hid (F1.out.next hb5)
  clear F1
  have F1 := F12
  clear F12
  clear hb5
  clear F1
  go_wp2_with fail
  have hts := cut_le s
  generalize s.extract 0 (min (s.size : Int) 2000).toNat = t at hts HP ⊢
  refine (k_parse (by omega) HG.out HP.out).mono ?_
  rintro e w6 ⟨⟨A6, c6, hc6, rfl, hr6⟩, hb6⟩
  have hBz := HB.out.size
  have HB2 := Lib.hid (HB.out.trans (hb6.mono hBz))
  clear HB hBz
  have HB := HB2
  clear HB2
  have HG2 := Lib.hid (HG.out.below hb6)
  clear HG
  have HG := HG2
  clear HG2
  have FA2 := Lib.hid (FA.out.next hb6)
  clear FA
  have FA := FA2
  clear FA2
  clear hb6
  have FL := Lib.hid hr6
  have FLc := Lib.hid hc6
  clear hr6 hc6
  go_wp2
  go_ret
  exact ⟨rfl, HB.out⟩

set_option maxRecDepth 100000 in
set_option maxHeartbeats 8000000 in
theorem back_wrong_no (A : Option Addr) (n c : Nat) (xs : List Int) (s : ByteArray) (w : World) (hfa : RI w w.heap.size A n xs) (hnc : n ≤ c) (hn : n ≤ maxLen) (hs : s.size ≤ maxLen) (hg : GlobOk w) (er : Int) (hrx : rightB xs = false) (hp : parseL (s.extract 0 (min (s.size : Int) 2000).toNat).data.toList = ([], er)) (he' : (er != 0) = true) :
    Calls Tryd.prog 6 #[.slice A n c, .string s] w fun e w' => e = .returned (.bool true) ∧ Below w.heap.size w w' := by
  have FA := Lib.hid hfa
  have HG := Lib.hid hg
  have HB := Lib.hid (Below.refl w.heap.size w)
  have HN := Lib.hid hn
  have HNC := Lib.hid hnc
  have HRX := Lib.hid hrx
  have HP := Lib.hid hp
  unfold maxLen at hs
  clear hfa hg hrx hp hn hnc
  go_enter Tryd.func6, Tryd.ntmps6
  go_wp2_with fail
  refine (awake_any _ HG.out).mono ?_
  rintro e w1 ⟨rfl, hb1⟩
  have hBz := HB.out.size
  have HB2 := Lib.hid (HB.out.trans (hb1.mono hBz))
  clear HB hBz
  have HB := HB2
  clear HB2
  have HG2 := Lib.hid (HG.out.below hb1)
  clear HG
  have HG := HG2
  clear HG2
  have FA2 := Lib.hid (FA.out.next hb1)
  clear FA
  have FA := FA2
  clear FA2
  clear hb1
  go_wp2_with fail
  refine (k_right FA.out HN.out HRX.out).mono ?_
  rintro e w2 ⟨rfl, hb2⟩
  have hBz := HB.out.size
  have HB2 := Lib.hid (HB.out.trans (hb2.mono hBz))
  clear HB hBz
  have HB := HB2
  clear HB2
  have HG2 := Lib.hid (HG.out.below hb2)
  clear HG
  have HG := HG2
  clear HG2
  have FA2 := Lib.hid (FA.out.next hb2)
  clear FA
  have FA := FA2
  clear FA2
  clear hb2
  go_wp2_with fail
  have hts := cut_le s
  generalize s.extract 0 (min (s.size : Int) 2000).toNat = t at hts HP ⊢
  refine (k_parse (by omega) HG.out HP.out).mono ?_
  rintro e w3 ⟨⟨A3, c3, hc3, rfl, hr3⟩, hb3⟩
  have hBz := HB.out.size
  have HB2 := Lib.hid (HB.out.trans (hb3.mono hBz))
  clear HB hBz
  have HB := HB2
  clear HB2
  have HG2 := Lib.hid (HG.out.below hb3)
  clear HG
  have HG := HG2
  clear HG2
  have FA2 := Lib.hid (FA.out.next hb3)
  clear FA
  have FA := FA2
  clear FA2
  clear hb3
  have FL := Lib.hid hr3
  have FLc := Lib.hid hc3
  clear hr3 hc3
  go_wp2
  go_ret
  exact ⟨rfl, HB.out⟩

/-- SetBack, whatever the input. -/
theorem setBack_walk (A : Option Addr) (n c : Nat) (xs : List Int) (s : ByteArray) (w : World) (hfa : RI w w.heap.size A n xs) (_ : A = none → c = 0) (hnc : n ≤ c) (hn : n ≤ maxLen) (hs : s.size ≤ maxLen) (hg : GlobOk w) :
    Calls Tryd.prog 6 #[.slice A n c, .string s] w fun e w' => e = .returned (.bool true) ∧ Below w.heap.size w w' := by
  obtain ⟨l, er, hp⟩ : ∃ l er, parseL (s.extract 0 (min (s.size : Int) 2000).toNat).data.toList = (l, er) := ⟨_, _, rfl⟩
  by_cases he : er = 0
  · subst he
    cases hrx : rightB xs with
    | true => exact back_right_ok A n c xs s w hfa hnc hn hs hg l hrx hp
    | false => exact back_wrong_ok A n c xs s w hfa hnc hn hs hg l hrx hp
  · have hl : l = [] := by
      have := parseL_not (t := (s.extract 0 (min (s.size : Int) 2000).toNat).data.toList) (by rw [hp]; exact he)
      rw [hp] at this
      exact this
    subst hl
    have h2 : (er != 0) = true := by simpa using he
    cases hrx : rightB xs with
    | true => exact back_right_no A n c xs s w hfa hnc hn hs hg er hrx hp h2
    | false => exact back_wrong_no A n c xs s w hfa hnc hn hs hg er hrx hp h2

end Go.Proofs.YtgifhbjcelkjkaaDoor
