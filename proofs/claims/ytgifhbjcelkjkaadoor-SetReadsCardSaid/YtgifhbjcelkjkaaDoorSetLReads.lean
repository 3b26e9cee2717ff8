/- The statement SetReads, as a walk: of any text and any list of int the call returns true and keeps all that was there. -/
import Derived.Test.YtgifhbjcelkjkaaDoorSetKit2
namespace Go.Proofs.YtgifhbjcelkjkaaDoor
open Go.RowKit Go.Shelf

theorem parse_cap (t : List UInt8) : (parseL t).1.length ≤ maxLen := by
  by_cases h : (parseL t).2 = 0
  · have := right_length (parseL_ok h).1
    exact ml256 this
  · rw [parseL_not h]; exact Nat.zero_le _
theorem cut_size (s : ByteArray) : (s.extract 0 (min (s.size : Int) 2000).toNat).size ≤ 2000 := by
  simp only [ByteArray.size_extract]
  omega

set_option maxRecDepth 100000 in
set_option maxHeartbeats 8000000 in
theorem reads_short (s : ByteArray) (A' : Option Addr) (n' c' : Nat) (ys : List Int) (w : World) (hs : s.size ≤ maxLen) (hfb : RI w w.heap.size A' n' ys) (hnc : n' ≤ c') (hn : n' ≤ maxLen) (hg : GlobOk w) (h3 : n' ≤ 300) :
    Calls Tryd.prog 4 #[.string s, .slice A' n' c'] w fun e w' => e = .returned (.bool true) ∧ Below w.heap.size w w' := by
  have FB := Lib.hid hfb
  have HG := Lib.hid hg
  have HB := Lib.hid (Below.refl w.heap.size w)
  have HN := Lib.hid hn
  have HNC := Lib.hid hnc
  obtain ⟨u, hu⟩ : ∃ u, ShowB ys = u := ⟨_, rfl⟩
  have HU := Lib.hid hu
  clear hu hn hnc
  unfold maxLen at hs
  clear hfb hg
  go_enter Tryd.func4, Tryd.ntmps4
  go_wp2_with fail
  refine (awake_any _ HG.out).mono ?_
  rintro e w1 ⟨rfl, hb1⟩
  have hBz := HB.out.size
  have HB2 := Lib.hid (HB.out.trans (hb1.mono hBz))
  clear HB hBz
  have HB := HB2
  clear HB2
  have HG2 := Lib.hid (HG.out.below hb1)
  clear HG
  have HG := HG2
  clear HG2
  have FB2 := Lib.hid (FB.out.next hb1)
  clear FB
  have FB := FB2
  clear FB2
  clear hb1
  go_wp2_with fail
  have hts := cut_size s
  generalize s.extract 0 (min (s.size : Int) 2000).toNat = t at hts ⊢
  have hcap := parse_cap t.data.toList
  obtain ⟨l, er, hp⟩ : ∃ l er, parseL t.data.toList = (l, er) := ⟨_, _, rfl⟩
  rw [hp] at hcap
  have HCAP := Lib.hid hcap
  have HP := Lib.hid hp
  clear hp hcap
  refine (k_parse (by omega) HG.out HP.out).mono ?_
  rintro e w2 ⟨⟨A2, c2, hc2, rfl, hr2⟩, hb2⟩
  have hBz := HB.out.size
  have HB2 := Lib.hid (HB.out.trans (hb2.mono hBz))
  clear HB hBz
  have HB := HB2
  clear HB2
  have HG2 := Lib.hid (HG.out.below hb2)
  clear HG
  have HG := HG2
  clear HG2
  have FB2 := Lib.hid (FB.out.next hb2)
  clear FB
  have FB := FB2
  clear FB2
  clear hb2
  have FL := Lib.hid hr2
  clear hr2 hc2
  go_wp2_with fail
  refine (k_refParse (by omega) HP.out).mono ?_
  rintro e w3 ⟨⟨A3, c3, hc3, rfl, hr3⟩, hb3⟩
  have hBz := HB.out.size
  have HB2 := Lib.hid (HB.out.trans (hb3.mono hBz))
  clear HB hBz
  have HB := HB2
  clear HB2
  have HG2 := Lib.hid (HG.out.below hb3)
  clear HG
  have HG := HG2
  clear HG2
  have FB2 := Lib.hid (FB.out.next hb3)
  clear FB
  have FB := FB2
  clear FB2
  have FL2 := Lib.hid (FL.out.next hb3)
  clear FL
  have FL := FL2
  clear FL2
  clear hb3
  have FM := Lib.hid hr3
  clear hr3 hc3
  go_wp2_with fail
  refine (k_same FL.out FM.out HCAP.out HCAP.out rfl).mono ?_
  rintro e w4 ⟨rfl, hb4⟩
  have hBz := HB.out.size
  have HB2 := Lib.hid (HB.out.trans (hb4.mono hBz))
  clear HB hBz
  have HB := HB2
  clear HB2
  have HG2 := Lib.hid (HG.out.below hb4)
  clear HG
  have HG := HG2
  clear HG2
  have FB2 := Lib.hid (FB.out.next hb4)
  clear FB
  have FB := FB2
  clear FB2
  have FL2 := Lib.hid (FL.out.next hb4)
  clear FL
  have FL := FL2
  clear FL2
  have FM2 := Lib.hid (FM.out.next hb4)
  clear FM
  have FM := FM2
  clear FM2
  clear hb4
  go_wp2_with fail
  refine (k_show FB.out HN.out HNC.out HG.out HU.out).mono ?_
  rintro e w5 ⟨rfl, hb5⟩
  have hBz := HB.out.size
  have HB2 := Lib.hid (HB.out.trans (hb5.mono hBz))
  clear HB hBz
  have HB := HB2
  clear HB2
  have HG2 := Lib.hid (HG.out.below hb5)
  clear HG
  have HG := HG2
  clear HG2
  have FB2 := Lib.hid (FB.out.next hb5)
  clear FB
  have FB := FB2
  clear FB2
  have FL2 := Lib.hid (FL.out.next hb5)
  clear FL
  have FL := FL2
  clear FL2
  have FM2 := Lib.hid (FM.out.next hb5)
  clear FM
  have FM := FM2
  clear FM2
  clear hb5
  go_wp2_with fail
  refine (k_refShow FB.out HN.out).mono ?_
  rintro e w6 ⟨rfl, hb6⟩
  have hBz := HB.out.size
  have HB2 := Lib.hid (HB.out.trans (hb6.mono hBz))
  clear HB hBz
  have HB := HB2
  clear HB2
  have HG2 := Lib.hid (HG.out.below hb6)
  clear HG
  have HG := HG2
  clear HG2
  have FB2 := Lib.hid (FB.out.next hb6)
  clear FB
  have FB := FB2
  clear FB2
  have FL2 := Lib.hid (FL.out.next hb6)
  clear FL
  have FL := FL2
  clear FL2
  have FM2 := Lib.hid (FM.out.next hb6)
  clear FM
  have FM := FM2
  clear FM2
  clear hb6
  rw [HU.out]
  go_wp2
  go_ret
  exact ⟨rfl, HB.out⟩

set_option maxRecDepth 100000 in
set_option maxHeartbeats 8000000 in
theorem reads_long (s : ByteArray) (A' : Option Addr) (n' c' : Nat) (ys : List Int) (w : World) (hs : s.size ≤ maxLen) (hfb : RI w w.heap.size A' n' ys) (hnc : n' ≤ c') (hn : n' ≤ maxLen) (hg : GlobOk w) (h3 : 300 < n') :
    Calls Tryd.prog 4 #[.string s, .slice A' n' c'] w fun e w' => e = .returned (.bool true) ∧ Below w.heap.size w w' := by
  have FB := Lib.hid hfb
  have HG := Lib.hid hg
  have HB := Lib.hid (Below.refl w.heap.size w)
  have HN := Lib.hid hn
  have HNC := Lib.hid hnc
  unfold maxLen at hn
  unfold maxLen at hs
  clear hfb hg
  go_enter Tryd.func4, Tryd.ntmps4
  go_wp2_with fail
  refine (awake_any _ HG.out).mono ?_
  rintro e w1 ⟨rfl, hb1⟩
  have hBz := HB.out.size
  have HB2 := Lib.hid (HB.out.trans (hb1.mono hBz))
  clear HB hBz
  have HB := HB2
  clear HB2
  have HG2 := Lib.hid (HG.out.below hb1)
  clear HG
  have HG := HG2
  clear HG2
  have FB2 := Lib.hid (FB.out.next hb1)
  clear FB
  have FB := FB2
  clear FB2
  clear hb1
  go_wp2_with fail
  have hts := cut_size s
  generalize s.extract 0 (min (s.size : Int) 2000).toNat = t at hts ⊢
  have hcap := parse_cap t.data.toList
  obtain ⟨l, er, hp⟩ : ∃ l er, parseL t.data.toList = (l, er) := ⟨_, _, rfl⟩
  rw [hp] at hcap
  have HCAP := Lib.hid hcap
  have HP := Lib.hid hp
  clear hp hcap
  refine (k_parse (by omega) HG.out HP.out).mono ?_
  rintro e w2 ⟨⟨A2, c2, hc2, rfl, hr2⟩, hb2⟩
  have hBz := HB.out.size
  have HB2 := Lib.hid (HB.out.trans (hb2.mono hBz))
  clear HB hBz
  have HB := HB2
  clear HB2
  have HG2 := Lib.hid (HG.out.below hb2)
  clear HG
  have HG := HG2
  clear HG2
  have FB2 := Lib.hid (FB.out.next hb2)
  clear FB
  have FB := FB2
  clear FB2
  clear hb2
  have FL := Lib.hid hr2
  clear hr2 hc2
  go_wp2_with fail
  refine (k_refParse (by omega) HP.out).mono ?_
  rintro e w3 ⟨⟨A3, c3, hc3, rfl, hr3⟩, hb3⟩
  have hBz := HB.out.size
  have HB2 := Lib.hid (HB.out.trans (hb3.mono hBz))
  clear HB hBz
  have HB := HB2
  clear HB2
  have HG2 := Lib.hid (HG.out.below hb3)
  clear HG
  have HG := HG2
  clear HG2
  have FB2 := Lib.hid (FB.out.next hb3)
  clear FB
  have FB := FB2
  clear FB2
  have FL2 := Lib.hid (FL.out.next hb3)
  clear FL
  have FL := FL2
  clear FL2
  clear hb3
  have FM := Lib.hid hr3
  clear hr3 hc3
  go_wp2_with fail
  refine (k_same FL.out FM.out HCAP.out HCAP.out rfl).mono ?_
  rintro e w4 ⟨rfl, hb4⟩
  have hBz := HB.out.size
  have HB2 := Lib.hid (HB.out.trans (hb4.mono hBz))
  clear HB hBz
  have HB := HB2
  clear HB2
  have HG2 := Lib.hid (HG.out.below hb4)
  clear HG
  have HG := HG2
  clear HG2
  have FB2 := Lib.hid (FB.out.next hb4)
  clear FB
  have FB := FB2
  clear FB2
  have FL2 := Lib.hid (FL.out.next hb4)
  clear FL
  have FL := FL2
  clear FL2
  have FM2 := Lib.hid (FM.out.next hb4)
  clear FM
  have FM := FM2
  clear FM2
  clear hb4
  go_wp2
  go_ret
  exact ⟨rfl, HB.out⟩

/-- SetReads, whatever the input. -/
theorem setReads_walk (s : ByteArray) (A' : Option Addr) (n' c' : Nat) (ys : List Int) (w : World) (hs : s.size ≤ maxLen) (hfb : RI w w.heap.size A' n' ys) (_ : A' = none → c' = 0) (hnc : n' ≤ c') (hn : n' ≤ maxLen) (hg : GlobOk w) :
    Calls Tryd.prog 4 #[.string s, .slice A' n' c'] w fun e w' => e = .returned (.bool true) ∧ Below w.heap.size w w' := by
  by_cases h : n' ≤ 300
  · exact reads_short s A' n' c' ys w hs hfb hnc hn hg h
  · exact reads_long s A' n' c' ys w hs hfb hnc hn hg (by omega)

end Go.Proofs.YtgifhbjcelkjkaaDoor
