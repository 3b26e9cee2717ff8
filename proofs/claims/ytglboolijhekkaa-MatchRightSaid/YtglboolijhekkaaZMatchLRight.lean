/- The statement MatchRight, as a walk over the contracts: of any graph, numbers, spec and number the call returns true. -/
import Derived.Test.YtglboolijhekkaaMg05
import Derived.Test.YtglboolijhekkaaZMatchRefCould
namespace Go.Proofs.Ytglboolijhekkaa
open Go.RowKit

set_option maxRecDepth 100000 in
set_option maxHeartbeats 8000000 in
theorem matchRight_l0 (H : MatchOk) (GO : GraphOk) (A : Option Addr) (n c : Nat) (A2 : Option Addr) (n2 c2 : Nat) (s : Sp) (a : Int) (w : World) (h60 : 60 < n) (_ : n ≤ maxLen) (hG : Glob w) :
    Calls Try.prog 3 #[.slice A n c, .slice A2 n2 c2, .agg #[.int .i64 s.nodes, .int .i64 s.cores, .int .i64 s.gpus, .string s.tag, .bool s.whole, .int .i64 s.long, .int .i64 s.prio], .int .i64 a] w fun e w' => e = .returned (.bool true) ∧ Below w.heap.size w w' := by
  obtain ⟨W, hW⟩ : ∃ W, W = w.alloc (spO s) := ⟨_, rfl⟩
  have BX : Hid (BoxS W w.heap.size s) := Lib.hid (by rw [hW]; exact box_new w s)
  have hb0 : Below w.heap.size w W := by rw [hW]; exact (Below.refl _ _).alloc (Nat.le_refl _) _
  have HB := Lib.hid hb0
  have HG := Lib.hid (hG.next hb0)
  unfold spO at hW
  have h60d : decide ((60 : Int) < (n : Int)) = true := by simp; omega
  unfold maxLen at *
  clear hb0 hG BX
  go_enter Try.func3, Try.ntmps3
  go_wp2_with fail
  rw [← hW]
  refine (awake9_any H GO _ HG.out).mono ?_
  rintro e w1 ⟨rfl, hb⟩
  have HBq := Lib.hid (HB.out.trans (hb.mono HB.out.size))
  clear HB
  have HB := HBq
  clear HBq
  have HGq := Lib.hid (HG.out.next hb)
  clear HG
  have HG := HGq
  clear HGq
  clear hb
  go_wp2
  go_ret
  exact ⟨rfl, HB.out⟩

set_option maxRecDepth 100000 in
set_option maxHeartbeats 8000000 in
theorem matchRight_l1 (H : MatchOk) (GO : GraphOk) (A : Option Addr) (n c : Nat) (A2 : Option Addr) (n2 c2 : Nat) (s : Sp) (a : Int) (w : World) (h60 : ¬ 60 < n) (h300 : 300 < n2) (_ : n2 ≤ maxLen) (hG : Glob w) :
    Calls Try.prog 3 #[.slice A n c, .slice A2 n2 c2, .agg #[.int .i64 s.nodes, .int .i64 s.cores, .int .i64 s.gpus, .string s.tag, .bool s.whole, .int .i64 s.long, .int .i64 s.prio], .int .i64 a] w fun e w' => e = .returned (.bool true) ∧ Below w.heap.size w w' := by
  obtain ⟨W, hW⟩ : ∃ W, W = w.alloc (spO s) := ⟨_, rfl⟩
  have BX : Hid (BoxS W w.heap.size s) := Lib.hid (by rw [hW]; exact box_new w s)
  have hb0 : Below w.heap.size w W := by rw [hW]; exact (Below.refl _ _).alloc (Nat.le_refl _) _
  have HB := Lib.hid hb0
  have HG := Lib.hid (hG.next hb0)
  unfold spO at hW
  have h60d : decide ((60 : Int) < (n : Int)) = false := by simp; omega
  have h300d : decide ((300 : Int) < (n2 : Int)) = true := by simp; omega
  unfold maxLen at *
  clear hb0 hG BX
  go_enter Try.func3, Try.ntmps3
  go_wp2_with fail
  rw [← hW]
  refine (awake9_any H GO _ HG.out).mono ?_
  rintro e w1 ⟨rfl, hb⟩
  have HBq := Lib.hid (HB.out.trans (hb.mono HB.out.size))
  clear HB
  have HB := HBq
  clear HBq
  have HGq := Lib.hid (HG.out.next hb)
  clear HG
  have HG := HGq
  clear HGq
  clear hb
  go_wp2
  go_ret
  exact ⟨rfl, HB.out⟩

section
variable {A : Option Addr} {n c : Nat} {A2 : Option Addr} {n2 c2 : Nat} {g : Gr} {F : List Int} {s : Sp} {w : World} (hr : RG w w.heap.size A n g) (hn : n ≤ maxLen)
include hr hn
theorem refFind_b (hr2 : RI w w.heap.size A2 n2 F) (hn2 : n2 ≤ maxLen) (hs : SAsk s) {l : List Int} {b : Bool} (h : findL g F s = l) (h2 : hadB g F s = b) :
    Calls Try.prog 8 #[.slice A n c, .slice A2 n2 c2, .agg #[.int .i64 s.nodes, .int .i64 s.cores, .int .i64 s.gpus, .string s.tag, .bool s.whole, .int .i64 s.long, .int .i64 s.prio]] w (RBPost l b w) := by
  subst h h2; exact refFind_any A n c A2 n2 c2 g F s w hr hn hr2 hn2 hs
theorem refSuits_b (hr2 : RI w w.heap.size A2 n2 F) (hn2 : n2 ≤ maxLen) (hs : SAsk s) {a : Int} {b : Bool} (h : suitsL g F s a = b) :
    Calls Try.prog 11 #[.slice A n c, .slice A2 n2 c2, .agg #[.int .i64 s.nodes, .int .i64 s.cores, .int .i64 s.gpus, .string s.tag, .bool s.whole, .int .i64 s.long, .int .i64 s.prio], .int .i64 a] w fun e w' => e = .returned (.bool b) ∧ Below w.heap.size w w' := by
  subst h; exact refSuits_any A n c A2 n2 c2 g F s a w hr hn hr2 hn2 hs
theorem refMany_b (hr2 : RI w w.heap.size A2 n2 F) (hn2 : n2 ≤ maxLen) (hs : SAsk s) {m : Int} (h : manyL g F s = m) :
    Calls Try.prog 13 #[.slice A n c, .slice A2 n2 c2, .agg #[.int .i64 s.nodes, .int .i64 s.cores, .int .i64 s.gpus, .string s.tag, .bool s.whole, .int .i64 s.long, .int .i64 s.prio]] w fun e w' => e = .returned (.int .i64 m) ∧ Below w.heap.size w w' := by
  subst h; exact refMany_any A n c A2 n2 c2 g F s w hr hn hr2 hn2 hs
theorem refCould_b (hs : SAsk s) {b : Bool} (h : couldL g s = b) :
    Calls Try.prog 15 #[.slice A n c, .agg #[.int .i64 s.nodes, .int .i64 s.cores, .int .i64 s.gpus, .string s.tag, .bool s.whole, .int .i64 s.long, .int .i64 s.prio]] w fun e w' => e = .returned (.bool b) ∧ Below w.heap.size w w' := by
  subst h; exact refCould_any A n c g s w hr hn hs
end

set_option maxRecDepth 100000 in
set_option maxHeartbeats 8000000 in
theorem matchRight_main (H : MatchOk) (GO : GraphOk) (A : Option Addr) (n c : Nat) (A2 : Option Addr) (n2 c2 : Nat) (g : Gr) (F : List Int) (s : Sp) (a : Int) (w : World) (hg : GAsk w A n c g) (hf : LAsk w A2 n2 c2 F) (hs : SAsk s) (ha : I64 a) (h60 : ¬ 60 < n) (hG : Glob w) :
    Calls Try.prog 3 #[.slice A n c, .slice A2 n2 c2, .agg #[.int .i64 s.nodes, .int .i64 s.cores, .int .i64 s.gpus, .string s.tag, .bool s.whole, .int .i64 s.long, .int .i64 s.prio], .int .i64 a] w fun e w' => e = .returned (.bool true) ∧ Below w.heap.size w w' := by
  obtain ⟨W, hW⟩ : ∃ W, W = w.alloc (spO s) := ⟨_, rfl⟩
  have BX : Hid (BoxS W w.heap.size s) := Lib.hid (by rw [hW]; exact box_new w s)
  have hb0 : Below w.heap.size w W := by rw [hW]; exact (Below.refl _ _).alloc (Nat.le_refl _) _
  have HB := Lib.hid hb0
  have HG := Lib.hid (hG.next hb0)
  have FG := Lib.hid (hg.next hb0)
  have FF := Lib.hid (hf.next hb0)
  have HS := Lib.hid hs
  have HA := Lib.hid ha
  have h60d : decide ((60 : Int) < (n : Int)) = false := by simp; omega
  have h300d : decide ((300 : Int) < (n2 : Int)) = false := by have := hf.few; simp; omega
  have hln : (findL g F s).length ≤ 300 := Nat.le_trans findL_few (by omega)
  obtain ⟨l, e1⟩ : ∃ r, findL g F s = r := ⟨_, rfl⟩
  obtain ⟨b, e2⟩ : ∃ r, hadB g F s = r := ⟨_, rfl⟩
  obtain ⟨v, e3⟩ : ∃ r, suitsL g F s a = r := ⟨_, rfl⟩
  obtain ⟨x, e4⟩ : ∃ r, manyL g F s = r := ⟨_, rfl⟩
  obtain ⟨y, e5⟩ : ∃ r, couldL g s = r := ⟨_, rfl⟩
  rw [e1] at hln
  have HLN := Lib.hid hln
  have E1 := Lib.hid e1
  have E2 := Lib.hid e2
  have E3 := Lib.hid e3
  have E4 := Lib.hid e4
  have E5 := Lib.hid e5
  unfold spO at hW
  clear hb0 hg hf hs ha hG e1 e2 e3 e4 e5 hln h60
  go_enter Try.func3, Try.ntmps3
  go_wp2_with fail
  rw [← hW]
  refine (awake9_any H GO _ HG.out).mono ?_
  rintro e w1 ⟨rfl, hb⟩
  have HBq := Lib.hid (HB.out.trans (hb.mono HB.out.size))
  clear HB
  have HB := HBq
  clear HBq
  have HGq := Lib.hid (HG.out.next hb)
  clear HG
  have HG := HGq
  clear HGq
  have FGq := Lib.hid (FG.out.next hb)
  clear FG
  have FG := FGq
  clear FGq
  have FFq := Lib.hid (FF.out.next hb)
  clear FF
  have FF := FFq
  clear FFq
  have BXq := Lib.hid (BX.out.next hb)
  clear BX
  have BX := BXq
  clear BXq
  clear hb
  clear hW
  have q0 := BX.out.c0
  have q1 := BX.out.c1
  have q2 := BX.out.c2
  have q3 := BX.out.c3
  have q4 := BX.out.c4
  have q5 := BX.out.c5
  have q6 := BX.out.c6
  go_wp2_with fail
  refine (m9_find H FG.out FF.out HS.out HG.out E1.out E2.out).mono ?_
  rintro e w2 ⟨⟨A2, c2, rfl, hr2, hnil2, hc2⟩, hb⟩
  have HBq := Lib.hid (HB.out.trans (hb.mono HB.out.size))
  clear HB
  have HB := HBq
  clear HBq
  have HGq := Lib.hid (HG.out.next hb)
  clear HG
  have HG := HGq
  clear HGq
  have FGq := Lib.hid (FG.out.next hb)
  clear FG
  have FG := FGq
  clear FGq
  have FFq := Lib.hid (FF.out.next hb)
  clear FF
  have FF := FFq
  clear FFq
  have BXq := Lib.hid (BX.out.next hb)
  clear BX
  have BX := BXq
  clear BXq
  clear hb
  have F2 := Lib.hid hr2
  clear hr2 hnil2 hc2
  clear q0 q1 q2 q3 q4 q5 q6
  have q0 := BX.out.c0
  have q1 := BX.out.c1
  have q2 := BX.out.c2
  have q3 := BX.out.c3
  have q4 := BX.out.c4
  have q5 := BX.out.c5
  have q6 := BX.out.c6
  go_wp2_with fail
  refine (refFind_b FG.out.reads (ml300 FG.out.few) FF.out.reads (ml300 FF.out.few) HS.out E1.out E2.out).mono ?_
  rintro e w3 ⟨⟨A3, c3, rfl, hr3⟩, hb⟩
  have HBq := Lib.hid (HB.out.trans (hb.mono HB.out.size))
  clear HB
  have HB := HBq
  clear HBq
  have HGq := Lib.hid (HG.out.next hb)
  clear HG
  have HG := HGq
  clear HGq
  have FGq := Lib.hid (FG.out.next hb)
  clear FG
  have FG := FGq
  clear FGq
  have FFq := Lib.hid (FF.out.next hb)
  clear FF
  have FF := FFq
  clear FFq
  have BXq := Lib.hid (BX.out.next hb)
  clear BX
  have BX := BXq
  clear BXq
  have F2q := Lib.hid (F2.out.next hb)
  clear F2
  have F2 := F2q
  clear F2q
  clear hb
  have F3 := Lib.hid hr3
  clear hr3
  clear q0 q1 q2 q3 q4 q5 q6
  go_wp2
  have HKEEP : Hid (∀ wx, Below w3.drew.heap.size w3.drew wx → wx.cell? ⟨w.heap.size, 0, none⟩ = some (.int .i64 s.nodes) ∧ wx.cell? ⟨w.heap.size, 1, none⟩ = some (.int .i64 s.cores) ∧ wx.cell? ⟨w.heap.size, 2, none⟩ = some (.int .i64 s.gpus) ∧ wx.cell? ⟨w.heap.size, 3, none⟩ = some (.string s.tag) ∧ wx.cell? ⟨w.heap.size, 4, none⟩ = some (.bool s.whole) ∧ wx.cell? ⟨w.heap.size, 5, none⟩ = some (.int .i64 s.long) ∧ wx.cell? ⟨w.heap.size, 6, none⟩ = some (.int .i64 s.prio)) := Lib.hid (fun wx hz' => by
    have hz := (bel_drew1 w3).trans (hz'.mono (bel_drew1 w3).size)
    exact ⟨keep_cell BX.out.lt BX.out.c0 hz, keep_cell BX.out.lt BX.out.c1 hz, keep_cell BX.out.lt BX.out.c2 hz, keep_cell BX.out.lt BX.out.c3 hz, keep_cell BX.out.lt BX.out.c4 hz, keep_cell BX.out.lt BX.out.c5 hz, keep_cell BX.out.lt BX.out.c6 hz⟩)
  have hd := bel_drew1 w3
  have HBq := Lib.hid (HB.out.trans (hd.mono HB.out.size))
  clear HB
  have HB := HBq
  clear HBq
  have HGq := Lib.hid (HG.out.next hd)
  clear HG
  have HG := HGq
  clear HGq
  have FGq := Lib.hid (FG.out.next hd)
  clear FG
  have FG := FGq
  clear FGq
  have FFq := Lib.hid (FF.out.next hd)
  clear FF
  have FF := FFq
  clear FFq
  have BXq := Lib.hid (BX.out.next hd)
  clear BX
  have BX := BXq
  clear BXq
  have F2q := Lib.hid (F2.out.next hd)
  clear F2
  have F2 := F2q
  clear F2q
  have F3q := Lib.hid (F3.out.next hd)
  clear F3
  have F3 := F3q
  clear F3q
  clear hd
  have HY := Lib.hid (Below.refl w3.drew.heap.size w3.drew)
  go_region_held3 (fun w' => w'.cell? ⟨w.heap.size, 0, none⟩ = some (.int .i64 s.nodes) ∧ w'.cell? ⟨w.heap.size, 1, none⟩ = some (.int .i64 s.cores) ∧ w'.cell? ⟨w.heap.size, 2, none⟩ = some (.int .i64 s.gpus) ∧ w'.cell? ⟨w.heap.size, 3, none⟩ = some (.string s.tag) ∧ w'.cell? ⟨w.heap.size, 4, none⟩ = some (.bool s.whole) ∧ w'.cell? ⟨w.heap.size, 5, none⟩ = some (.int .i64 s.long) ∧ w'.cell? ⟨w.heap.size, 6, none⟩ = some (.int .i64 s.prio))
    (first | exact HKEEP.out _ (Below.refl _ _) | exact HKEEP.out _ HY.out | go_keep | fail)
    (first | (go_at_call 9; (with_reducible refine (ri_same (w := w3.drew) F2.out F3.out (ml300 HLN.out) (ml300 HLN.out) (same_self _)).mono ?_); rintro e w4 ⟨rfl, hb⟩; have HY := Lib.hid (HY.out.trans (hb.mono HY.out.size)); have HB := Lib.hid (HB.out.trans (hb.mono HB.out.size)); have HG := Lib.hid (HG.out.next hb); have FG := Lib.hid (FG.out.next hb); have FF := Lib.hid (FF.out.next hb); have BX := Lib.hid (BX.out.next hb); have F2 := Lib.hid (F2.out.next hb); have F3 := Lib.hid (F3.out.next hb); clear hb) | (go_at_call 10; (with_reducible refine (m9_suits (w := w4) H FG.out FF.out HS.out HG.out HA.out E3.out).mono ?_); rintro e w5 ⟨rfl, hb⟩; have HY := Lib.hid (HY.out.trans (hb.mono HY.out.size)); have HB := Lib.hid (HB.out.trans (hb.mono HB.out.size)); have HG := Lib.hid (HG.out.next hb); have FG := Lib.hid (FG.out.next hb); have FF := Lib.hid (FF.out.next hb); have BX := Lib.hid (BX.out.next hb); have F2 := Lib.hid (F2.out.next hb); have F3 := Lib.hid (F3.out.next hb); clear hb) | (go_at_call 11; (with_reducible refine (refSuits_b (w := w5) FG.out.reads (ml300 FG.out.few) FF.out.reads (ml300 FF.out.few) HS.out E3.out).mono ?_); rintro e w6 ⟨rfl, hb⟩; have HY := Lib.hid (HY.out.trans (hb.mono HY.out.size)); have HB := Lib.hid (HB.out.trans (hb.mono HB.out.size)); have HG := Lib.hid (HG.out.next hb); have FG := Lib.hid (FG.out.next hb); have FF := Lib.hid (FF.out.next hb); have BX := Lib.hid (BX.out.next hb); have F2 := Lib.hid (F2.out.next hb); have F3 := Lib.hid (F3.out.next hb); clear hb) | (go_at_call 12; (with_reducible refine (m9_many (w := w6) H FG.out FF.out HS.out HG.out E4.out).mono ?_); rintro e w7 ⟨rfl, hb⟩; have HY := Lib.hid (HY.out.trans (hb.mono HY.out.size)); have HB := Lib.hid (HB.out.trans (hb.mono HB.out.size)); have HG := Lib.hid (HG.out.next hb); have FG := Lib.hid (FG.out.next hb); have FF := Lib.hid (FF.out.next hb); have BX := Lib.hid (BX.out.next hb); have F2 := Lib.hid (F2.out.next hb); have F3 := Lib.hid (F3.out.next hb); clear hb) | (go_at_call 13; (with_reducible refine (refMany_b (w := w7) FG.out.reads (ml300 FG.out.few) FF.out.reads (ml300 FF.out.few) HS.out E4.out).mono ?_); rintro e w8 ⟨rfl, hb⟩; have HY := Lib.hid (HY.out.trans (hb.mono HY.out.size)); have HB := Lib.hid (HB.out.trans (hb.mono HB.out.size)); have HG := Lib.hid (HG.out.next hb); have FG := Lib.hid (FG.out.next hb); have FF := Lib.hid (FF.out.next hb); have BX := Lib.hid (BX.out.next hb); have F2 := Lib.hid (F2.out.next hb); have F3 := Lib.hid (F3.out.next hb); clear hb) | (go_at_call 14; (with_reducible refine (m9_could (w := w8) H FG.out HS.out HG.out E5.out).mono ?_); rintro e w9 ⟨rfl, hb⟩; have HY := Lib.hid (HY.out.trans (hb.mono HY.out.size)); have HB := Lib.hid (HB.out.trans (hb.mono HB.out.size)); have HG := Lib.hid (HG.out.next hb); have FG := Lib.hid (FG.out.next hb); have FF := Lib.hid (FF.out.next hb); have BX := Lib.hid (BX.out.next hb); have F2 := Lib.hid (F2.out.next hb); have F3 := Lib.hid (F3.out.next hb); clear hb) | (go_at_call 15; (with_reducible refine (refCould_b (w := w9) FG.out.reads (ml300 FG.out.few) HS.out E5.out).mono ?_); rintro e w10 ⟨rfl, hb⟩; have HY := Lib.hid (HY.out.trans (hb.mono HY.out.size)); have HB := Lib.hid (HB.out.trans (hb.mono HB.out.size)); have HG := Lib.hid (HG.out.next hb); have FG := Lib.hid (FG.out.next hb); have FF := Lib.hid (FF.out.next hb); have BX := Lib.hid (BX.out.next hb); have F2 := Lib.hid (F2.out.next hb); have F3 := Lib.hid (F3.out.next hb); clear hb) | fail)
  clear HKEEP HY
  go_wp2
  go_ret
  exact ⟨rfl, HB.out⟩

theorem matchRight_walk (H : MatchOk) (GO : GraphOk) (A : Option Addr) (n c : Nat) (A2 : Option Addr) (n2 c2 : Nat) (g : Gr) (F : List Int) (s : Sp) (a : Int) (w : World) (hr : RG w w.heap.size A n g) (hnil : A = none → c = 0) (hnc : n ≤ c) (hn : n ≤ maxLen) (hr2 : RI w w.heap.size A2 n2 F) (hj2 : ∀ x ∈ F, I64 x) (hnil2 : A2 = none → c2 = 0) (hnc2 : n2 ≤ c2) (hn2 : n2 ≤ maxLen) (hs : SAsk s) (ha : I64 a) (hG : Glob w) :
    Calls Try.prog 3 #[.slice A n c, .slice A2 n2 c2, .agg #[.int .i64 s.nodes, .int .i64 s.cores, .int .i64 s.gpus, .string s.tag, .bool s.whole, .int .i64 s.long, .int .i64 s.prio], .int .i64 a] w fun e w' => e = .returned (.bool true) ∧ Below w.heap.size w w' := by
  by_cases h60 : 60 < n
  · exact matchRight_l0 H GO A n c A2 n2 c2 s a w h60 hn hG
  · by_cases h300 : 300 < n2
    · exact matchRight_l1 H GO A n c A2 n2 c2 s a w h60 h300 hn2 hG
    · exact matchRight_main H GO A n c A2 n2 c2 g F s a w ⟨hr, hnil, hnc, by omega⟩ ⟨hr2, hnil2, hnc2, by omega, hj2⟩ hs ha h60 hG

end Go.Proofs.Ytglboolijhekkaa
