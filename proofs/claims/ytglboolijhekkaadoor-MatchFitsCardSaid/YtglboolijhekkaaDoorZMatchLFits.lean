/- The statement MatchFits, as a walk over the contracts: of any graph, numbers and spec the call returns true. Written by gen/gen_matchfits.py. -/
import Derived.LoopTactic
import Derived.Test.YtglboolijhekkaaDoorMg05
namespace Go.Proofs.YtglboolijhekkaaDoor
open Go.RowKit

theorem fits_no {g : Gr} {F : List Int} {s : Sp} (h : hadB g F s = false) (hs : rightS s = true) : manyL g F s < s.nodes := by
  have h1 := (rightS_is hs).2.1
  unfold manyL
  split
  · rename_i hm
    have : ¬ s.nodes ≤ cntS g F s g.length := fun e => by rw [hadB_is.2 ⟨hm, e⟩] at h; cases h
    omega
  · omega
theorem fits_many {g : Gr} {F : List Int} {s : Sp} (h : hadB g F s = true) : s.nodes ≤ manyL g F s := by
  obtain ⟨hm, hc⟩ := hadB_is.1 h
  unfold manyL
  rw [if_pos hm]
  exact hc
theorem fits_suits {g : Gr} {F : List Int} {s : Sp} {x : Nat} (h : hadB g F s = true) (hx : x < g.length) (hs : selP g F s x = true) : suitsL g F s (x : Int) = true := by
  rw [suitsL_is hx, (hadB_is.1 h).1, sel_suit hs]; rfl
theorem here_len {g : Gr} {F : List Int} {s : Sp} {x : Nat} (h : rightG g = true) : (hereL g F s x).length ≤ 256 := by
  unfold hereL
  split
  · exact Nat.le_trans (numsF_len _ _) (rightG_is h).few
  · exact Nat.zero_le _
theorem here_i64 {g : Gr} {F : List Int} {s : Sp} {x : Nat} (h : rightG g = true) : ∀ y ∈ hereL g F s x, I64 y := by
  unfold hereL
  split
  · exact numsF_i64 (by have := (rightG_is h).few; omega)
  · intro y hy; cases hy
theorem node_i64' {g : Gr} (h : rightG g = true) {x : Nat} (hx : x < g.length) : I64 (x : Int) := i64_small (by have := (rightG_is h).few; omega)
theorem cellk_arr (w : World) (a0 a1 a2 a3 a4 : Int) (T : TypeId) {j : Nat} {v : Value} (h : (#[.int .i64 a0, .int .i64 a1, .int .i64 a2, .int .i64 a3, .int .i64 a4] : Array Value)[j]? = some v) : CellK (w.alloc (.cells #[.int .i64 a0, .int .i64 a1, .int .i64 a2, .int .i64 a3, .int .i64 a4] T)) ⟨w.heap.size, j, none⟩ v := by
  refine ⟨by simp, ?_⟩
  rw [World.cell?_alloc_at _ _ _ _ rfl]
  exact h
set_option maxRecDepth 100000 in
set_option maxHeartbeats 8000000 in
theorem matchFits_l0 (H : MatchOk) (GO : GraphOk) (A : Option Addr) (n c : Nat) (A2 : Option Addr) (n2 c2 : Nat) (s : Sp) (w : World) (h60 : 60 < n) (_ : n ≤ maxLen) (hG : Glob w) :
    Calls Tryd.prog 3 #[.slice A n c, .slice A2 n2 c2, .agg #[.int .i64 s.nodes, .int .i64 s.cores, .int .i64 s.gpus, .string s.tag, .bool s.whole, .int .i64 s.long, .int .i64 s.prio]] w fun e w' => e = .returned (.bool true) ∧ Below w.heap.size w w' := by
  obtain ⟨W, hW⟩ : ∃ W, W = w.alloc (spO s) := ⟨_, rfl⟩
  have BX : Hid (BoxS W w.heap.size s) := Lib.hid (by rw [hW]; exact box_new w s)
  have hb0 : Below w.heap.size w W := by rw [hW]; exact (Below.refl _ _).alloc (Nat.le_refl _) _
  have HB := Lib.hid hb0
  have HG := Lib.hid (hG.next hb0)
  unfold spO at hW
  have h60d : decide ((60 : Int) < (n : Int)) = true := by simp; omega
  unfold maxLen at *
  clear hb0 hG BX
  go_enter Tryd.func3, Tryd.ntmps3
  go_wp2_with fail
  rw [← hW]
  refine (awake9_any H GO _ HG.out).mono ?_
  rintro e w1 ⟨rfl, hb⟩
  have HBq := Lib.hid (HB.out.trans (hb.mono HB.out.size))
  clear HB
  have HB := HBq
  clear HBq
  have HGq := Lib.hid (HG.out.next hb)
  clear HG
  have HG := HGq
  clear HGq
  clear hb
  go_wp2
  go_ret
  exact ⟨rfl, HB.out⟩

set_option maxRecDepth 100000 in
set_option maxHeartbeats 8000000 in
theorem matchFits_l1 (H : MatchOk) (GO : GraphOk) (A : Option Addr) (n c : Nat) (A2 : Option Addr) (n2 c2 : Nat) (s : Sp) (w : World) (h60 : ¬ 60 < n) (h300 : 300 < n2) (_ : n2 ≤ maxLen) (hG : Glob w) :
    Calls Tryd.prog 3 #[.slice A n c, .slice A2 n2 c2, .agg #[.int .i64 s.nodes, .int .i64 s.cores, .int .i64 s.gpus, .string s.tag, .bool s.whole, .int .i64 s.long, .int .i64 s.prio]] w fun e w' => e = .returned (.bool true) ∧ Below w.heap.size w w' := by
  obtain ⟨W, hW⟩ : ∃ W, W = w.alloc (spO s) := ⟨_, rfl⟩
  have BX : Hid (BoxS W w.heap.size s) := Lib.hid (by rw [hW]; exact box_new w s)
  have hb0 : Below w.heap.size w W := by rw [hW]; exact (Below.refl _ _).alloc (Nat.le_refl _) _
  have HB := Lib.hid hb0
  have HG := Lib.hid (hG.next hb0)
  unfold spO at hW
  have h60d : decide ((60 : Int) < (n : Int)) = false := by simp; omega
  have h300d : decide ((300 : Int) < (n2 : Int)) = true := by simp; omega
  unfold maxLen at *
  clear hb0 hG BX
  go_enter Tryd.func3, Tryd.ntmps3
  go_wp2_with fail
  rw [← hW]
  refine (awake9_any H GO _ HG.out).mono ?_
  rintro e w1 ⟨rfl, hb⟩
  have HBq := Lib.hid (HB.out.trans (hb.mono HB.out.size))
  clear HB
  have HB := HBq
  clear HBq
  have HGq := Lib.hid (HG.out.next hb)
  clear HG
  have HG := HGq
  clear HGq
  clear hb
  go_wp2
  go_ret
  exact ⟨rfl, HB.out⟩

set_option maxRecDepth 100000 in
set_option maxHeartbeats 8000000 in
theorem matchFits_no0 (H : MatchOk) (GO : GraphOk) (HSP : SpecOk) (A : Option Addr) (n c : Nat) (A2 : Option Addr) (n2 c2 : Nat) (g : Gr) (F : List Int) (s : Sp) (w : World) (hg : GAsk w A n c g) (hf : LAsk w A2 n2 c2 F) (hs : SAsk s) (h60 : ¬ 60 < n) (hG : Glob w) (h : hadB g F s = false) (hr : rightS s = false) :
    Calls Tryd.prog 3 #[.slice A n c, .slice A2 n2 c2, .agg #[.int .i64 s.nodes, .int .i64 s.cores, .int .i64 s.gpus, .string s.tag, .bool s.whole, .int .i64 s.long, .int .i64 s.prio]] w fun e w' => e = .returned (.bool true) ∧ Below w.heap.size w w' := by
  have e1 := findL_no h
  have E1 := Lib.hid e1
  have E2 := Lib.hid h
  have RS := Lib.hid hr
  obtain ⟨W, hW⟩ : ∃ W, W = w.alloc (spO s) := ⟨_, rfl⟩
  have BX : Hid (BoxS W w.heap.size s) := Lib.hid (by rw [hW]; exact box_new w s)
  have hb0 : Below w.heap.size w W := by rw [hW]; exact (Below.refl _ _).alloc (Nat.le_refl _) _
  have HB := Lib.hid hb0
  have HG := Lib.hid (hG.next hb0)
  have FG := Lib.hid (hg.next hb0)
  have FF := Lib.hid (hf.next hb0)
  have HS := Lib.hid hs
  have h60d : decide ((60 : Int) < (n : Int)) = false := by simp; omega
  have h300d : decide ((300 : Int) < (n2 : Int)) = false := by have := hf.few; simp; omega
  unfold spO at hW
  clear hb0 hg hf hs hG h60 h hr e1
  go_enter Tryd.func3, Tryd.ntmps3
  go_wp2_with fail
  rw [← hW]
  refine (awake9_any H GO _ HG.out).mono ?_
  rintro e w1 ⟨rfl, hb⟩
  have HBq := Lib.hid (HB.out.trans (hb.mono HB.out.size))
  clear HB
  have HB := HBq
  clear HBq
  have HGq := Lib.hid (HG.out.next hb)
  clear HG
  have HG := HGq
  clear HGq
  have FGq := Lib.hid (FG.out.next hb)
  clear FG
  have FG := FGq
  clear FGq
  have FFq := Lib.hid (FF.out.next hb)
  clear FF
  have FF := FFq
  clear FFq
  have BXq := Lib.hid (BX.out.next hb)
  clear BX
  have BX := BXq
  clear BXq
  clear hb
  clear hW
  have q0 := BX.out.c0
  have q1 := BX.out.c1
  have q2 := BX.out.c2
  have q3 := BX.out.c3
  have q4 := BX.out.c4
  have q5 := BX.out.c5
  have q6 := BX.out.c6
  go_wp2_with fail
  refine (m9_find H FG.out FF.out HS.out HG.out E1.out E2.out).mono ?_
  rintro e w2 ⟨⟨A2, c2, rfl, hr2, hnil2, hc2⟩, hb⟩
  have HBq := Lib.hid (HB.out.trans (hb.mono HB.out.size))
  clear HB
  have HB := HBq
  clear HBq
  have HGq := Lib.hid (HG.out.next hb)
  clear HG
  have HG := HGq
  clear HGq
  have FGq := Lib.hid (FG.out.next hb)
  clear FG
  have FG := FGq
  clear FGq
  have FFq := Lib.hid (FF.out.next hb)
  clear FF
  have FF := FFq
  clear FFq
  have BXq := Lib.hid (BX.out.next hb)
  clear BX
  have BX := BXq
  clear BXq
  clear hb
  clear hr2 hnil2 hc2
  clear q0 q1 q2 q3 q4 q5 q6
  go_wp2
  have zc0 : ∀ p : Later w2, p.now.cell? ⟨w.heap.size, 0, none⟩ = some (.int .i64 s.nodes) := fun _ => Later.cell BX.out.lt BX.out.c0
  have zc1 : ∀ p : Later w2, p.now.cell? ⟨w.heap.size, 1, none⟩ = some (.int .i64 s.cores) := fun _ => Later.cell BX.out.lt BX.out.c1
  have zc2 : ∀ p : Later w2, p.now.cell? ⟨w.heap.size, 2, none⟩ = some (.int .i64 s.gpus) := fun _ => Later.cell BX.out.lt BX.out.c2
  have zc3 : ∀ p : Later w2, p.now.cell? ⟨w.heap.size, 3, none⟩ = some (.string s.tag) := fun _ => Later.cell BX.out.lt BX.out.c3
  have zc4 : ∀ p : Later w2, p.now.cell? ⟨w.heap.size, 4, none⟩ = some (.bool s.whole) := fun _ => Later.cell BX.out.lt BX.out.c4
  have zc5 : ∀ p : Later w2, p.now.cell? ⟨w.heap.size, 5, none⟩ = some (.int .i64 s.long) := fun _ => Later.cell BX.out.lt BX.out.c5
  have zc6 : ∀ p : Later w2, p.now.cell? ⟨w.heap.size, 6, none⟩ = some (.int .i64 s.prio) := fun _ => Later.cell BX.out.lt BX.out.c6
  refine wp_region_later (by kernel_rfl) (by kernel_rfl) ?_
  repeat (first | go_big_quiet_skip | (go_big_quiet_want; go_big_quiet_op; first | go_big_quiet_on | (apply Exists.intro; refine ⟨fun pz => ?_, ?_⟩; (first | (go_at_call 7; exact Calls.later_of (s7_right HSP HS.out (HG.out.next pz.bel) RS.out)) | fail); go_big_quiet_on)))
  refine wpQuiet_nil ?_
  intro _ hw'
  obtain ⟨pz, rfl⟩ := hw'
  obtain ⟨w3, hb⟩ := pz
  try dsimp only
  clear zc0 zc1 zc2 zc3 zc4 zc5 zc6
  have HBq := Lib.hid (HB.out.trans (hb.mono HB.out.size))
  clear HB
  have HB := HBq
  clear HBq
  have HGq := Lib.hid (HG.out.next hb)
  clear HG
  have HG := HGq
  clear HGq
  have FGq := Lib.hid (FG.out.next hb)
  clear FG
  have FG := FGq
  clear FGq
  have FFq := Lib.hid (FF.out.next hb)
  clear FF
  have FF := FFq
  clear FFq
  have BXq := Lib.hid (BX.out.next hb)
  clear BX
  have BX := BXq
  clear BXq
  clear hb
  go_wp2
  go_ret
  exact ⟨rfl, HB.out⟩

set_option maxRecDepth 100000 in
set_option maxHeartbeats 8000000 in
theorem matchFits_no1 (H : MatchOk) (GO : GraphOk) (HSP : SpecOk) (A : Option Addr) (n c : Nat) (A2 : Option Addr) (n2 c2 : Nat) (g : Gr) (F : List Int) (s : Sp) (w : World) (hg : GAsk w A n c g) (hf : LAsk w A2 n2 c2 F) (hs : SAsk s) (h60 : ¬ 60 < n) (hG : Glob w) (h : hadB g F s = false) (hr : rightS s = true) :
    Calls Tryd.prog 3 #[.slice A n c, .slice A2 n2 c2, .agg #[.int .i64 s.nodes, .int .i64 s.cores, .int .i64 s.gpus, .string s.tag, .bool s.whole, .int .i64 s.long, .int .i64 s.prio]] w fun e w' => e = .returned (.bool true) ∧ Below w.heap.size w w' := by
  have e1 := findL_no h
  have E1 := Lib.hid e1
  have E2 := Lib.hid h
  have RS := Lib.hid hr
  have hlt := fits_no h hr
  obtain ⟨mm, e4⟩ : ∃ v, manyL g F s = v := ⟨_, rfl⟩
  rw [e4] at hlt
  have E4 := Lib.hid e4
  have dlt : decide (mm < s.nodes) = true := decide_eq_true hlt
  obtain ⟨W, hW⟩ : ∃ W, W = w.alloc (spO s) := ⟨_, rfl⟩
  have BX : Hid (BoxS W w.heap.size s) := Lib.hid (by rw [hW]; exact box_new w s)
  have hb0 : Below w.heap.size w W := by rw [hW]; exact (Below.refl _ _).alloc (Nat.le_refl _) _
  have HB := Lib.hid hb0
  have HG := Lib.hid (hG.next hb0)
  have FG := Lib.hid (hg.next hb0)
  have FF := Lib.hid (hf.next hb0)
  have HS := Lib.hid hs
  have h60d : decide ((60 : Int) < (n : Int)) = false := by simp; omega
  have h300d : decide ((300 : Int) < (n2 : Int)) = false := by have := hf.few; simp; omega
  unfold spO at hW
  clear hb0 hg hf hs hG h60 h hr e1 e4 hlt
  go_enter Tryd.func3, Tryd.ntmps3
  go_wp2_with fail
  rw [← hW]
  refine (awake9_any H GO _ HG.out).mono ?_
  rintro e w1 ⟨rfl, hb⟩
  have HBq := Lib.hid (HB.out.trans (hb.mono HB.out.size))
  clear HB
  have HB := HBq
  clear HBq
  have HGq := Lib.hid (HG.out.next hb)
  clear HG
  have HG := HGq
  clear HGq
  have FGq := Lib.hid (FG.out.next hb)
  clear FG
  have FG := FGq
  clear FGq
  have FFq := Lib.hid (FF.out.next hb)
  clear FF
  have FF := FFq
  clear FFq
  have BXq := Lib.hid (BX.out.next hb)
  clear BX
  have BX := BXq
  clear BXq
  clear hb
  clear hW
  have q0 := BX.out.c0
  have q1 := BX.out.c1
  have q2 := BX.out.c2
  have q3 := BX.out.c3
  have q4 := BX.out.c4
  have q5 := BX.out.c5
  have q6 := BX.out.c6
  go_wp2_with fail
  refine (m9_find H FG.out FF.out HS.out HG.out E1.out E2.out).mono ?_
  rintro e w2 ⟨⟨A2, c2, rfl, hr2, hnil2, hc2⟩, hb⟩
  have HBq := Lib.hid (HB.out.trans (hb.mono HB.out.size))
  clear HB
  have HB := HBq
  clear HBq
  have HGq := Lib.hid (HG.out.next hb)
  clear HG
  have HG := HGq
  clear HGq
  have FGq := Lib.hid (FG.out.next hb)
  clear FG
  have FG := FGq
  clear FGq
  have FFq := Lib.hid (FF.out.next hb)
  clear FF
  have FF := FFq
  clear FFq
  have BXq := Lib.hid (BX.out.next hb)
  clear BX
  have BX := BXq
  clear BXq
  clear hb
  clear hr2 hnil2 hc2
  clear q0 q1 q2 q3 q4 q5 q6
  go_wp2
  have zc0 : ∀ p : Later w2, p.now.cell? ⟨w.heap.size, 0, none⟩ = some (.int .i64 s.nodes) := fun _ => Later.cell BX.out.lt BX.out.c0
  have zc1 : ∀ p : Later w2, p.now.cell? ⟨w.heap.size, 1, none⟩ = some (.int .i64 s.cores) := fun _ => Later.cell BX.out.lt BX.out.c1
  have zc2 : ∀ p : Later w2, p.now.cell? ⟨w.heap.size, 2, none⟩ = some (.int .i64 s.gpus) := fun _ => Later.cell BX.out.lt BX.out.c2
  have zc3 : ∀ p : Later w2, p.now.cell? ⟨w.heap.size, 3, none⟩ = some (.string s.tag) := fun _ => Later.cell BX.out.lt BX.out.c3
  have zc4 : ∀ p : Later w2, p.now.cell? ⟨w.heap.size, 4, none⟩ = some (.bool s.whole) := fun _ => Later.cell BX.out.lt BX.out.c4
  have zc5 : ∀ p : Later w2, p.now.cell? ⟨w.heap.size, 5, none⟩ = some (.int .i64 s.long) := fun _ => Later.cell BX.out.lt BX.out.c5
  have zc6 : ∀ p : Later w2, p.now.cell? ⟨w.heap.size, 6, none⟩ = some (.int .i64 s.prio) := fun _ => Later.cell BX.out.lt BX.out.c6
  refine wp_region_later (by kernel_rfl) (by kernel_rfl) ?_
  repeat (first | go_big_quiet_skip | (go_big_quiet_want; go_big_quiet_op; first | go_big_quiet_on | (apply Exists.intro; refine ⟨fun pz => ?_, ?_⟩; (first | (go_at_call 7; exact Calls.later_of (s7_right HSP HS.out (HG.out.next pz.bel) RS.out)) | (go_at_call 8; exact Calls.later_of (m9_many H (FG.out.next pz.bel) (FF.out.next pz.bel) HS.out (HG.out.next pz.bel) E4.out)) | fail); go_big_quiet_on)))
  refine wpQuiet_nil ?_
  intro _ hw'
  obtain ⟨pz, rfl⟩ := hw'
  obtain ⟨w3, hb⟩ := pz
  try dsimp only
  clear zc0 zc1 zc2 zc3 zc4 zc5 zc6
  have HBq := Lib.hid (HB.out.trans (hb.mono HB.out.size))
  clear HB
  have HB := HBq
  clear HBq
  have HGq := Lib.hid (HG.out.next hb)
  clear HG
  have HG := HGq
  clear HGq
  have FGq := Lib.hid (FG.out.next hb)
  clear FG
  have FG := FGq
  clear FGq
  have FFq := Lib.hid (FF.out.next hb)
  clear FF
  have FF := FFq
  clear FFq
  have BXq := Lib.hid (BX.out.next hb)
  clear BX
  have BX := BXq
  clear BXq
  clear hb
  go_wp2
  go_ret
  exact ⟨rfl, HB.out⟩

theorem suits_w {P : Program} {f : FuncId} {X Y v : Value} {n c gp lo pr : Int} {t : ByteArray} {wh b : Bool} {w : World} {Q : Ending → World → Prop} (h : wh = b) (hc : Calls P f #[X, Y, .agg #[.int .i64 n, .int .i64 c, .int .i64 gp, .string t, .bool wh, .int .i64 lo, .int .i64 pr], v] w Q) : Calls P f #[X, Y, .agg #[.int .i64 n, .int .i64 c, .int .i64 gp, .string t, .bool b, .int .i64 lo, .int .i64 pr], v] w Q := by
  subst h; exact hc
theorem suits_f {P : Program} {f : FuncId} {X Y v : Value} {n c gp lo pr : Int} {t : ByteArray} {wh b : Bool} {w : World} {Q : Ending → World → Prop} (h : wh = b) (hc : Calls P f #[X, Y, .agg #[.int .i64 n, .int .i64 c, .int .i64 gp, .string t, .bool wh, .int .i64 lo, .int .i64 pr], v] w Q) : Calls P f #[X, Y, .agg #[.int .i64 n, .int .i64 c, .int .i64 gp, .string t, .bool b, .int .i64 lo, .int .i64 pr], v] w Q := suits_w h hc
set_option maxRecDepth 100000 in
set_option maxHeartbeats 8000000 in
theorem matchFits_yes (H : MatchOk) (GO : GraphOk) (_ : SpecOk) (A : Option Addr) (n c : Nat) (A2 : Option Addr) (n2 c2 : Nat) (g : Gr) (F : List Int) (s : Sp) (w : World) (hg : GAsk w A n c g) (hf : LAsk w A2 n2 c2 F) (hs : SAsk s) (h60 : ¬ 60 < n) (hG : Glob w) (h : hadB g F s = true) :
    Calls Tryd.prog 3 #[.slice A n c, .slice A2 n2 c2, .agg #[.int .i64 s.nodes, .int .i64 s.cores, .int .i64 s.gpus, .string s.tag, .bool s.whole, .int .i64 s.long, .int .i64 s.prio]] w fun e w' => e = .returned (.bool true) ∧ Below w.heap.size w w' := by
  have hr := (mayB_is (hadB_is.1 h).1).1
  have HR := Lib.hid hr
  have HSR := Lib.hid (mayB_is (hadB_is.1 h).1).2.2
  have HE := Lib.hid h
  have hpa := find_part h
  have hmn := fits_many h
  have E5 := Lib.hid (had_could h)
  have hll := findL_few (g := g) (F := F) (s := s)
  have hli := findL_i64 (g := g) (F := F) (s := s)
  obtain ⟨l, e1⟩ : ∃ r, findL g F s = r := ⟨_, rfl⟩
  rw [e1] at hll hli hpa
  have HPA := Lib.hid hpa
  have HLN := Lib.hid hll
  have HLI := Lib.hid hli
  have E1 := Lib.hid e1
  have E2 := Lib.hid h
  obtain ⟨mm, e4⟩ : ∃ v, manyL g F s = v := ⟨_, rfl⟩
  rw [e4] at hmn
  have E4 := Lib.hid e4
  have dmn : decide (mm < s.nodes) = false := decide_eq_false (by omega)
  have hnn := nodesL_len (g := g)
  have hni := nodesL_i64 (g := g)
  obtain ⟨L, hL⟩ : ∃ L, nodesL g = L := ⟨_, rfl⟩
  rw [hL] at hnn hni
  have HNN := Lib.hid hnn
  have HNI := Lib.hid hni
  have HL := Lib.hid hL
  obtain ⟨W, hW⟩ : ∃ W, W = w.alloc (spO s) := ⟨_, rfl⟩
  have BX : Hid (BoxS W w.heap.size s) := Lib.hid (by rw [hW]; exact box_new w s)
  have hb0 : Below w.heap.size w W := by rw [hW]; exact (Below.refl _ _).alloc (Nat.le_refl _) _
  have HB := Lib.hid hb0
  have HG := Lib.hid (hG.next hb0)
  have FG := Lib.hid (hg.next hb0)
  have FF := Lib.hid (hf.next hb0)
  have HS := Lib.hid hs
  have h60d : decide ((60 : Int) < (n : Int)) = false := by simp; omega
  have h300d : decide ((300 : Int) < (n2 : Int)) = false := by have := hf.few; simp; omega
  unfold spO at hW
  clear hb0 hg hf hs hG h60 h e1 hll hli hnn hni hL hr hpa hmn e4
  go_enter Tryd.func3, Tryd.ntmps3
  go_wp2_with fail
  rw [← hW]
  refine (awake9_any H GO _ HG.out).mono ?_
  rintro e w1 ⟨rfl, hb⟩
  have HBq := Lib.hid (HB.out.trans (hb.mono HB.out.size))
  clear HB
  have HB := HBq
  clear HBq
  have HGq := Lib.hid (HG.out.next hb)
  clear HG
  have HG := HGq
  clear HGq
  have FGq := Lib.hid (FG.out.next hb)
  clear FG
  have FG := FGq
  clear FGq
  have FFq := Lib.hid (FF.out.next hb)
  clear FF
  have FF := FFq
  clear FFq
  have BXq := Lib.hid (BX.out.next hb)
  clear BX
  have BX := BXq
  clear BXq
  clear hb
  clear hW
  have q0 := BX.out.c0
  have q1 := BX.out.c1
  have q2 := BX.out.c2
  have q3 := BX.out.c3
  have q4 := BX.out.c4
  have q5 := BX.out.c5
  have q6 := BX.out.c6
  go_wp2_with fail
  refine (m9_find H FG.out FF.out HS.out HG.out E1.out E2.out).mono ?_
  rintro e w2 ⟨⟨A2, c2, rfl, hr2, hnil2, hc2⟩, hb⟩
  have HBq := Lib.hid (HB.out.trans (hb.mono HB.out.size))
  clear HB
  have HB := HBq
  clear HBq
  have HGq := Lib.hid (HG.out.next hb)
  clear HG
  have HG := HGq
  clear HGq
  have FGq := Lib.hid (FG.out.next hb)
  clear FG
  have FG := FGq
  clear FGq
  have FFq := Lib.hid (FF.out.next hb)
  clear FF
  have FF := FFq
  clear FFq
  have BXq := Lib.hid (BX.out.next hb)
  clear BX
  have BX := BXq
  clear BXq
  clear hb
  have FL := Lib.hid (LAsk.mk hr2 hnil2 hc2 (by have := HLN.out; omega) HLI.out)
  clear hr2 hnil2 hc2
  clear q0 q1 q2 q3 q4 q5 q6
  go_wp2
  have zc0 : ∀ p : Later w2, p.now.cell? ⟨w.heap.size, 0, none⟩ = some (.int .i64 s.nodes) := fun _ => Later.cell BX.out.lt BX.out.c0
  have zc1 : ∀ p : Later w2, p.now.cell? ⟨w.heap.size, 1, none⟩ = some (.int .i64 s.cores) := fun _ => Later.cell BX.out.lt BX.out.c1
  have zc2 : ∀ p : Later w2, p.now.cell? ⟨w.heap.size, 2, none⟩ = some (.int .i64 s.gpus) := fun _ => Later.cell BX.out.lt BX.out.c2
  have zc3 : ∀ p : Later w2, p.now.cell? ⟨w.heap.size, 3, none⟩ = some (.string s.tag) := fun _ => Later.cell BX.out.lt BX.out.c3
  have zc4 : ∀ p : Later w2, p.now.cell? ⟨w.heap.size, 4, none⟩ = some (.bool s.whole) := fun _ => Later.cell BX.out.lt BX.out.c4
  have zc5 : ∀ p : Later w2, p.now.cell? ⟨w.heap.size, 5, none⟩ = some (.int .i64 s.long) := fun _ => Later.cell BX.out.lt BX.out.c5
  have zc6 : ∀ p : Later w2, p.now.cell? ⟨w.heap.size, 6, none⟩ = some (.int .i64 s.prio) := fun _ => Later.cell BX.out.lt BX.out.c6
  refine wp_region_later (by kernel_rfl) (by kernel_rfl) ?_
  repeat (first | go_big_quiet_skip | (go_big_quiet_want; go_big_quiet_op; first | go_big_quiet_on | (apply Exists.intro; refine ⟨fun pz => ?_, ?_⟩; (first | (go_at_call 8; exact Calls.later_of (m9_many H (FG.out.next pz.bel) (FF.out.next pz.bel) HS.out (HG.out.next pz.bel) E4.out)) | (go_at_call 9; exact Calls.later_of (s_part (FL.out.next pz.bel).reads (FF.out.next pz.bel).reads (ml300 (FL.out.next pz.bel).few) (ml300 (FF.out.next pz.bel).few) HPA.out)) | (go_at_call 10; exact Calls.later_of (m9_could H (FG.out.next pz.bel) HS.out (HG.out.next pz.bel) E5.out)) | fail); go_big_quiet_on)))
  refine wpQuiet_nil ?_
  intro _ hw'
  obtain ⟨pz, rfl⟩ := hw'
  obtain ⟨w3, hb⟩ := pz
  try dsimp only
  clear zc0 zc1 zc2 zc3 zc4 zc5 zc6
  have HBq := Lib.hid (HB.out.trans (hb.mono HB.out.size))
  clear HB
  have HB := HBq
  clear HBq
  have HGq := Lib.hid (HG.out.next hb)
  clear HG
  have HG := HGq
  clear HGq
  have FGq := Lib.hid (FG.out.next hb)
  clear FG
  have FG := FGq
  clear FGq
  have FFq := Lib.hid (FF.out.next hb)
  clear FF
  have FF := FFq
  clear FFq
  have BXq := Lib.hid (BX.out.next hb)
  clear BX
  have BX := BXq
  clear BXq
  have FLq := Lib.hid (FL.out.next hb)
  clear FL
  have FL := FLq
  clear FLq
  clear hb
  go_wp2_with fail
  refine (calls_ipost (GO.nodes _ _ _ _ _ FG.out HG.out) HL.out).mono ?_
  rintro e w4 ⟨⟨A3, c3, rfl, hr3, hnil3, hc3⟩, hb⟩
  have HBq := Lib.hid (HB.out.trans (hb.mono HB.out.size))
  clear HB
  have HB := HBq
  clear HBq
  have HGq := Lib.hid (HG.out.next hb)
  clear HG
  have HG := HGq
  clear HGq
  have FGq := Lib.hid (FG.out.next hb)
  clear FG
  have FG := FGq
  clear FGq
  have FFq := Lib.hid (FF.out.next hb)
  clear FF
  have FF := FFq
  clear FFq
  have BXq := Lib.hid (BX.out.next hb)
  clear BX
  have BX := BXq
  clear BXq
  have FLq := Lib.hid (FL.out.next hb)
  clear FL
  have FL := FLq
  clear FLq
  clear hb
  have FN := Lib.hid (LAsk.mk hr3 hnil3 hc3 (by have := HNN.out; omega) HNI.out)
  clear hr3 hnil3 hc3
  go_wp2
  go_loopw [9, 11] (fun mv i wr => ∃ k : Nat, k ≤ L.length ∧ i = .int .i64 k ∧ mv = .int .i64 (selN g F s k : Nat) ∧ Below w4.heap.size w4 wr) (fun _ i _ => L.length - (intOf i).toNat)
  case atStart => exact ⟨0, Nat.zero_le _, rfl, rfl, Below.refl _ _⟩
  case round =>
    obtain ⟨k, hk, rfl, rfl, hrel⟩ := hrel
    have HR0 := Lib.hid hrel
    have hb := hrel
    clear hrel
    have HBq := Lib.hid (HB.out.trans (hb.mono HB.out.size))
    clear HB
    have HB := HBq
    clear HBq
    have HGq := Lib.hid (HG.out.next hb)
    clear HG
    have HG := HGq
    clear HGq
    have FGq := Lib.hid (FG.out.next hb)
    clear FG
    have FG := FGq
    clear FGq
    have FFq := Lib.hid (FF.out.next hb)
    clear FF
    have FF := FFq
    clear FFq
    have BXq := Lib.hid (BX.out.next hb)
    clear BX
    have BX := BXq
    clear BXq
    have FLq := Lib.hid (FL.out.next hb)
    clear FL
    have FL := FLq
    clear FLq
    have FNq := Lib.hid (FN.out.next hb)
    clear FN
    have FN := FNq
    clear FNq
    clear hb
    have HR1 := Lib.hid HR0.out
    clear HR0
    by_cases hlt : k < L.length
    · obtain ⟨x, hx1, hx2, hx3, _, _⟩ := node_facts HR.out (by rw [HL.out]; exact hlt)
      have hsucc := selN_succ (F := F) (s := s) (by rw [HL.out]; exact hlt) hx1
      rw [HL.out] at hx1
      have hhere := here_is HE.out hx2 hx3
      rw [E1.out] at hhere
      have hsl := selN_le (g := g) (F := F) (s := s) k
      rw [HL.out] at hsl
      have hln := HNN.out
      have HXI : Hid (I64 (x : Int)) := Lib.hid (node_i64' HR.out hx2)
      obtain ⟨bl, ol, rfl, hcl⟩ := cell_list FN.out.reads hlt hx1
      have CL := Lib.hid hcl
      have hun := underL_len (g := g) (x : Int)
      have hui := underL_i64 (g := g) (x : Int)
      obtain ⟨U, hU⟩ : ∃ U, underL g (x : Int) = U := ⟨_, rfl⟩
      have hhn := here_len (F := F) (s := s) (x := x) HR.out
      have hhi := here_i64 (F := F) (s := s) (x := x) HR.out
      obtain ⟨Hl, hHl⟩ : ∃ Hl, hereL g F s x = Hl := ⟨_, rfl⟩
      rw [hHl] at hhere hhn hhi
      rw [hU] at hhere hun hui
      have HU := Lib.hid hU
      have HUN := Lib.hid hun
      have HUI := Lib.hid hui
      have HME := Lib.hid hhere
      have HHN := Lib.hid hhn
      have HHI := Lib.hid hhi
      obtain ⟨sn, hsn⟩ : ∃ v, selN g F s k = v := ⟨_, rfl⟩
      rw [hsn] at hsl hsucc ⊢
      have hsn300 : sn ≤ 300 := by omega
      have hk300 : k < 300 := by omega
      obtain ⟨hl, hhl⟩ : ∃ v, Hl.length = v := ⟨_, rfl⟩
      have HHL := Lib.hid hhl
      clear hcl hx1 hun hui hsn hsl hln hhere hhn hhi
      cases hse : selP g F s x with
      | false =>
        rw [here_no hse] at hHl
        have hl0 : hl = 0 := by rw [← hhl, ← hHl]; rfl
        subst hl0
        rw [hse, if_neg (by simp)] at hsucc
        have HSN := Lib.hid hsucc
        clear hsucc hse hHl hhl hU
        have cl := CL.out.at'
        go_wp2_with fail
        refine (calls_ipost (GO.under _ _ _ _ _ _ FG.out HXI.out HG.out) HU.out).mono ?_
        rintro e w5 ⟨⟨Au, cu, rfl, hru, hnilu, hcu⟩, hb⟩
        have HBq := Lib.hid (HB.out.trans (hb.mono HB.out.size))
        clear HB
        have HB := HBq
        clear HBq
        have HR1q := Lib.hid (HR1.out.trans (hb.mono HR1.out.size))
        clear HR1
        have HR1 := HR1q
        clear HR1q
        have HGq := Lib.hid (HG.out.next hb)
        clear HG
        have HG := HGq
        clear HGq
        have FGq := Lib.hid (FG.out.next hb)
        clear FG
        have FG := FGq
        clear FGq
        have FFq := Lib.hid (FF.out.next hb)
        clear FF
        have FF := FFq
        clear FFq
        have BXq := Lib.hid (BX.out.next hb)
        clear BX
        have BX := BXq
        clear BXq
        have FLq := Lib.hid (FL.out.next hb)
        clear FL
        have FL := FLq
        clear FLq
        have FNq := Lib.hid (FN.out.next hb)
        clear FN
        have FN := FNq
        clear FNq
        have CLq := Lib.hid (CL.out.next hb)
        clear CL
        have CL := CLq
        clear CLq
        clear hb
        have FU := Lib.hid (LAsk.mk hru hnilu hcu (by have := HUN.out; omega) HUI.out)
        clear hru hnilu hcu cl
        go_wp2_with fail
        refine (calls_ipost (s_meet FL.out.reads FU.out.reads (ml300 FL.out.few) (ml300 FU.out.few) HG.out) HME.out).mono ?_
        rintro e w6 ⟨⟨Am, cm, rfl, hrm, hnilm, hcm⟩, hb⟩
        have HBq := Lib.hid (HB.out.trans (hb.mono HB.out.size))
        clear HB
        have HB := HBq
        clear HBq
        have HR1q := Lib.hid (HR1.out.trans (hb.mono HR1.out.size))
        clear HR1
        have HR1 := HR1q
        clear HR1q
        have HGq := Lib.hid (HG.out.next hb)
        clear HG
        have HG := HGq
        clear HGq
        have FGq := Lib.hid (FG.out.next hb)
        clear FG
        have FG := FGq
        clear FGq
        have FFq := Lib.hid (FF.out.next hb)
        clear FF
        have FF := FFq
        clear FFq
        have BXq := Lib.hid (BX.out.next hb)
        clear BX
        have BX := BXq
        clear BXq
        have FLq := Lib.hid (FL.out.next hb)
        clear FL
        have FL := FLq
        clear FLq
        have FNq := Lib.hid (FN.out.next hb)
        clear FN
        have FN := FNq
        clear FNq
        have CLq := Lib.hid (CL.out.next hb)
        clear CL
        have CL := CLq
        clear CLq
        have FUq := Lib.hid (FU.out.next hb)
        clear FU
        have FU := FUq
        clear FUq
        clear hb
        have FH := Lib.hid (LAsk.mk hrm hnilm hcm (by have := HHN.out; omega) HHI.out)
        clear hrm hnilm hcm
        rw [HHL.out] at FH
        rw [HHL.out]
        go_wp2
        go_roundw
        case rel => exact ⟨k + 1, by omega, by go_num, by rw [HSN.out]; rfl, HR1.out⟩
        case measure => simp [intOf]; omega
      | true =>
        have hpos := here_some HR.out HSR.out hx2 hse
        rw [hHl, hhl] at hpos
        have d0 : ((hl : Int) == 0) = false := beq_eq_false_iff_ne.2 (by omega)
        have d00 : (hl == 0) = false := beq_eq_false_iff_ne.2 (by omega)
        have E6 : Hid (suitsL g F s (x : Int) = true) := Lib.hid (fits_suits HE.out hx2 hse)
        rw [hse, if_pos rfl] at hsucc
        have HSN := Lib.hid hsucc
        by_cases hw : s.whole = true
        · obtain ⟨hk3, hk4⟩ := here_kinds_whole HR.out hx2 hse hw
          have hhu := here_whole HR.out hx2 hse hw
          rw [hU, hHl] at hhu
          have hul : U.length = hl := by rw [← hhu]; exact hhl
          have HW := Lib.hid hw
          obtain ⟨a0, h0⟩ : ∃ v, kc g Hl 0 = v := ⟨_, rfl⟩
          obtain ⟨a1, h1⟩ : ∃ v, kc g Hl 1 = v := ⟨_, rfl⟩
          obtain ⟨a2, h2⟩ : ∃ v, kc g Hl 2 = v := ⟨_, rfl⟩
          obtain ⟨a3, h3⟩ : ∃ v, kc g Hl 3 = v := ⟨_, rfl⟩
          obtain ⟨a4, h4⟩ : ∃ v, kc g Hl 4 = v := ⟨_, rfl⟩
          have HKV : Hid (kVal g Hl = .agg #[.int .i64 a0, .int .i64 a1, .int .i64 a2, .int .i64 a3, .int .i64 a4]) := Lib.hid (by unfold kVal; rw [h0, h1, h2, h3, h4])
          rw [hHl, h3] at hk3
          rw [hHl, h4] at hk4
          have d3 : decide (a3 < s.cores) = false := decide_eq_false (by omega)
          have d4 : decide (a4 < s.gpus) = false := decide_eq_false (by omega)
          have dl : (hl != U.length) = false := by rw [hul]; simp
          have dlz : ((hl : Int) != (U.length : Int)) = false := by rw [hul]; simp
          clear hsucc hse hHl hU hpos hw hhu h0 h1 h2 h3 h4 hk3 hk4 hul hhl
          have cl := CL.out.at'
          go_wp2_with fail
          refine (calls_ipost (GO.under _ _ _ _ _ _ FG.out HXI.out HG.out) HU.out).mono ?_
          rintro e w5 ⟨⟨Au, cu, rfl, hru, hnilu, hcu⟩, hb⟩
          have HBq := Lib.hid (HB.out.trans (hb.mono HB.out.size))
          clear HB
          have HB := HBq
          clear HBq
          have HR1q := Lib.hid (HR1.out.trans (hb.mono HR1.out.size))
          clear HR1
          have HR1 := HR1q
          clear HR1q
          have HGq := Lib.hid (HG.out.next hb)
          clear HG
          have HG := HGq
          clear HGq
          have FGq := Lib.hid (FG.out.next hb)
          clear FG
          have FG := FGq
          clear FGq
          have FFq := Lib.hid (FF.out.next hb)
          clear FF
          have FF := FFq
          clear FFq
          have BXq := Lib.hid (BX.out.next hb)
          clear BX
          have BX := BXq
          clear BXq
          have FLq := Lib.hid (FL.out.next hb)
          clear FL
          have FL := FLq
          clear FLq
          have FNq := Lib.hid (FN.out.next hb)
          clear FN
          have FN := FNq
          clear FNq
          have CLq := Lib.hid (CL.out.next hb)
          clear CL
          have CL := CLq
          clear CLq
          clear hb
          have FU := Lib.hid (LAsk.mk hru hnilu hcu (by have := HUN.out; omega) HUI.out)
          clear hru hnilu hcu cl
          go_wp2_with fail
          refine (calls_ipost (s_meet FL.out.reads FU.out.reads (ml300 FL.out.few) (ml300 FU.out.few) HG.out) HME.out).mono ?_
          rintro e w6 ⟨⟨Am, cm, rfl, hrm, hnilm, hcm⟩, hb⟩
          have HBq := Lib.hid (HB.out.trans (hb.mono HB.out.size))
          clear HB
          have HB := HBq
          clear HBq
          have HR1q := Lib.hid (HR1.out.trans (hb.mono HR1.out.size))
          clear HR1
          have HR1 := HR1q
          clear HR1q
          have HGq := Lib.hid (HG.out.next hb)
          clear HG
          have HG := HGq
          clear HGq
          have FGq := Lib.hid (FG.out.next hb)
          clear FG
          have FG := FGq
          clear FGq
          have FFq := Lib.hid (FF.out.next hb)
          clear FF
          have FF := FFq
          clear FFq
          have BXq := Lib.hid (BX.out.next hb)
          clear BX
          have BX := BXq
          clear BXq
          have FLq := Lib.hid (FL.out.next hb)
          clear FL
          have FL := FLq
          clear FLq
          have FNq := Lib.hid (FN.out.next hb)
          clear FN
          have FN := FNq
          clear FNq
          have CLq := Lib.hid (CL.out.next hb)
          clear CL
          have CL := CLq
          clear CLq
          have FUq := Lib.hid (FU.out.next hb)
          clear FU
          have FU := FUq
          clear FUq
          clear hb
          have FH := Lib.hid (LAsk.mk hrm hnilm hcm (by have := HHN.out; omega) HHI.out)
          clear hrm hnilm hcm
          rw [HHL.out] at FH
          rw [HHL.out]
          go_wp2_with fail
          refine (calls_kinds (GO.kinds _ _ _ _ _ _ _ _ _ FG.out FH.out HG.out) HKV.out).mono ?_
          rintro e w7 ⟨rfl, hb⟩
          have HBq := Lib.hid (HB.out.trans (hb.mono HB.out.size))
          clear HB
          have HB := HBq
          clear HBq
          have HR1q := Lib.hid (HR1.out.trans (hb.mono HR1.out.size))
          clear HR1
          have HR1 := HR1q
          clear HR1q
          have HGq := Lib.hid (HG.out.next hb)
          clear HG
          have HG := HGq
          clear HGq
          have FGq := Lib.hid (FG.out.next hb)
          clear FG
          have FG := FGq
          clear FGq
          have FFq := Lib.hid (FF.out.next hb)
          clear FF
          have FF := FFq
          clear FFq
          have BXq := Lib.hid (BX.out.next hb)
          clear BX
          have BX := BXq
          clear BXq
          have FLq := Lib.hid (FL.out.next hb)
          clear FL
          have FL := FLq
          clear FLq
          have FNq := Lib.hid (FN.out.next hb)
          clear FN
          have FN := FNq
          clear FNq
          have CLq := Lib.hid (CL.out.next hb)
          clear CL
          have CL := CLq
          clear CLq
          have FUq := Lib.hid (FU.out.next hb)
          clear FU
          have FU := FUq
          clear FUq
          have FHq := Lib.hid (FH.out.next hb)
          clear FH
          have FH := FHq
          clear FHq
          clear hb
          go_wp2
          have hb := Below.alloc (Below.refl w7.heap.size w7) (Nat.le_refl _) (.cells #[.int .i64 a0, .int .i64 a1, .int .i64 a2, .int .i64 a3, .int .i64 a4] 36)
          have K2q := Lib.hid (cellk_arr w7 a0 a1 a2 a3 a4 36 (j := 2) rfl)
          have K3q := Lib.hid (cellk_arr w7 a0 a1 a2 a3 a4 36 (j := 3) rfl)
          have K4q := Lib.hid (cellk_arr w7 a0 a1 a2 a3 a4 36 (j := 4) rfl)
          have HBq := Lib.hid (HB.out.trans (hb.mono HB.out.size))
          clear HB
          have HB := HBq
          clear HBq
          have HR1q := Lib.hid (HR1.out.trans (hb.mono HR1.out.size))
          clear HR1
          have HR1 := HR1q
          clear HR1q
          have HGq := Lib.hid (HG.out.next hb)
          clear HG
          have HG := HGq
          clear HGq
          have FGq := Lib.hid (FG.out.next hb)
          clear FG
          have FG := FGq
          clear FGq
          have FFq := Lib.hid (FF.out.next hb)
          clear FF
          have FF := FFq
          clear FFq
          have BXq := Lib.hid (BX.out.next hb)
          clear BX
          have BX := BXq
          clear BXq
          have FLq := Lib.hid (FL.out.next hb)
          clear FL
          have FL := FLq
          clear FLq
          have FNq := Lib.hid (FN.out.next hb)
          clear FN
          have FN := FNq
          clear FNq
          have CLq := Lib.hid (CL.out.next hb)
          clear CL
          have CL := CLq
          clear CLq
          have FUq := Lib.hid (FU.out.next hb)
          clear FU
          have FU := FUq
          clear FUq
          have FHq := Lib.hid (FH.out.next hb)
          clear FH
          have FH := FHq
          clear FHq
          clear hb
          have K2 := K2q
          clear K2q
          have K3 := K3q
          clear K3q
          have K4 := K4q
          clear K4q
          have HKEEP : Hid (∀ wx, Below (w7.alloc (.cells #[.int .i64 a0, .int .i64 a1, .int .i64 a2, .int .i64 a3, .int .i64 a4] 36)).drew.heap.size (w7.alloc (.cells #[.int .i64 a0, .int .i64 a1, .int .i64 a2, .int .i64 a3, .int .i64 a4] 36)).drew wx → wx.cell? ⟨w.heap.size, 0, none⟩ = some (.int .i64 s.nodes) ∧ wx.cell? ⟨w.heap.size, 1, none⟩ = some (.int .i64 s.cores) ∧ wx.cell? ⟨w.heap.size, 2, none⟩ = some (.int .i64 s.gpus) ∧ wx.cell? ⟨w.heap.size, 3, none⟩ = some (.string s.tag) ∧ wx.cell? ⟨w.heap.size, 4, none⟩ = some (.bool true) ∧ wx.cell? ⟨w.heap.size, 5, none⟩ = some (.int .i64 s.long) ∧ wx.cell? ⟨w.heap.size, 6, none⟩ = some (.int .i64 s.prio) ∧ wx.cell? ⟨bl, ol + k, none⟩ = some (.int .i64 (x : Int)) ∧ wx.cell? ⟨w7.heap.size, 2, none⟩ = some (.int .i64 a2) ∧ wx.cell? ⟨w7.heap.size, 3, none⟩ = some (.int .i64 a3) ∧ wx.cell? ⟨w7.heap.size, 4, none⟩ = some (.int .i64 a4)) := Lib.hid (fun wx hz' => by
            have hz := (bel_drew1 (w7.alloc (.cells #[.int .i64 a0, .int .i64 a1, .int .i64 a2, .int .i64 a3, .int .i64 a4] 36))).trans (hz'.mono (bel_drew1 (w7.alloc (.cells #[.int .i64 a0, .int .i64 a1, .int .i64 a2, .int .i64 a3, .int .i64 a4] 36))).size)
            exact ⟨keep_cell BX.out.lt BX.out.c0 hz, keep_cell BX.out.lt BX.out.c1 hz, keep_cell BX.out.lt BX.out.c2 hz, keep_cell BX.out.lt BX.out.c3 hz, keep_cell BX.out.lt (by rw [← HW.out]; exact BX.out.c4) hz, keep_cell BX.out.lt BX.out.c5 hz, keep_cell BX.out.lt BX.out.c6 hz, keep_cell CL.out.lt CL.out.at' hz, keep_cell K2.out.lt K2.out.at' hz, keep_cell K3.out.lt K3.out.at' hz, keep_cell K4.out.lt K4.out.at' hz⟩)
          have hd := bel_drew1 (w7.alloc (.cells #[.int .i64 a0, .int .i64 a1, .int .i64 a2, .int .i64 a3, .int .i64 a4] 36))
          have HBq := Lib.hid (HB.out.trans (hd.mono HB.out.size))
          clear HB
          have HB := HBq
          clear HBq
          have HR1q := Lib.hid (HR1.out.trans (hd.mono HR1.out.size))
          clear HR1
          have HR1 := HR1q
          clear HR1q
          have HGq := Lib.hid (HG.out.next hd)
          clear HG
          have HG := HGq
          clear HGq
          have FGq := Lib.hid (FG.out.next hd)
          clear FG
          have FG := FGq
          clear FGq
          have FFq := Lib.hid (FF.out.next hd)
          clear FF
          have FF := FFq
          clear FFq
          have BXq := Lib.hid (BX.out.next hd)
          clear BX
          have BX := BXq
          clear BXq
          have FLq := Lib.hid (FL.out.next hd)
          clear FL
          have FL := FLq
          clear FLq
          have FNq := Lib.hid (FN.out.next hd)
          clear FN
          have FN := FNq
          clear FNq
          have CLq := Lib.hid (CL.out.next hd)
          clear CL
          have CL := CLq
          clear CLq
          have FUq := Lib.hid (FU.out.next hd)
          clear FU
          have FU := FUq
          clear FUq
          have FHq := Lib.hid (FH.out.next hd)
          clear FH
          have FH := FHq
          clear FHq
          have K2q := Lib.hid (K2.out.next hd)
          clear K2
          have K2 := K2q
          clear K2q
          have K3q := Lib.hid (K3.out.next hd)
          clear K3
          have K3 := K3q
          clear K3q
          have K4q := Lib.hid (K4.out.next hd)
          clear K4
          have K4 := K4q
          clear K4q
          clear hd
          have HY := Lib.hid (Below.refl (w7.alloc (.cells #[.int .i64 a0, .int .i64 a1, .int .i64 a2, .int .i64 a3, .int .i64 a4] 36)).drew.heap.size (w7.alloc (.cells #[.int .i64 a0, .int .i64 a1, .int .i64 a2, .int .i64 a3, .int .i64 a4] 36)).drew)
          refine wp_region_held_drew (S := fun w' => w'.cell? ⟨w.heap.size, 0, none⟩ = some (.int .i64 s.nodes) ∧ w'.cell? ⟨w.heap.size, 1, none⟩ = some (.int .i64 s.cores) ∧ w'.cell? ⟨w.heap.size, 2, none⟩ = some (.int .i64 s.gpus) ∧ w'.cell? ⟨w.heap.size, 3, none⟩ = some (.string s.tag) ∧ w'.cell? ⟨w.heap.size, 4, none⟩ = some (.bool true) ∧ w'.cell? ⟨w.heap.size, 5, none⟩ = some (.int .i64 s.long) ∧ w'.cell? ⟨w.heap.size, 6, none⟩ = some (.int .i64 s.prio) ∧ w'.cell? ⟨bl, ol + k, none⟩ = some (.int .i64 (x : Int)) ∧ w'.cell? ⟨w7.heap.size, 2, none⟩ = some (.int .i64 a2) ∧ w'.cell? ⟨w7.heap.size, 3, none⟩ = some (.int .i64 a3) ∧ w'.cell? ⟨w7.heap.size, 4, none⟩ = some (.int .i64 a4)) (by kernel_rfl) (HKEEP.out _ (Below.refl _ _)) (fun hHeld => ?_)
          refine wpAnyH_take (i := 0) (oi := ?oi1) (v := ?v1) ?hi1 (by kernel_rfl) (by kernel_rfl) (by kernel_rfl) ?hq1 ?hy1 hHeld ?rest1
          case hi1 => (simp only [List.getElem?_toArray, List.getElem?_cons_zero]; rfl)
          case hy1 => (refine Or.inl ⟨by rfl, ?_⟩; intro w hSw; (try dsimp only at hSw); go_simp; try with_reducible rfl)
          case hq1 => exact fun _ _ _ h => h
          try simp only [Act.put, List.setIfInBounds_toArray, List.set_cons_zero, List.set_cons_succ]
          refine wpAnyH_take (i := 1) (oi := ?oi2) (v := ?v2) ?hi2 (by kernel_rfl) (by kernel_rfl) (by kernel_rfl) ?hq2 ?hy2 hHeld ?rest2
          case hi2 => (simp only [List.getElem?_toArray, List.getElem?_cons_succ, List.getElem?_cons_zero]; rfl)
          case hy2 => (refine Or.inl ⟨by rfl, ?_⟩; intro w hSw; (try dsimp only at hSw); go_simp; try with_reducible rfl)
          case hq2 => exact fun _ _ _ h => h
          try simp only [Act.put, List.setIfInBounds_toArray, List.set_cons_zero, List.set_cons_succ]
          refine wpAnyH_take (i := 2) (oi := ?oi3) (v := ?v3) ?hi3 (by kernel_rfl) (by kernel_rfl) (by kernel_rfl) ?hq3 ?hy3 hHeld ?rest3
          case hi3 => (simp only [List.getElem?_toArray, List.getElem?_cons_succ, List.getElem?_cons_zero]; rfl)
          case hy3 => (refine Or.inl ⟨by rfl, ?_⟩; intro w hSw; (try dsimp only at hSw); go_simp; try with_reducible rfl)
          case hq3 => exact fun _ _ _ h => h
          try simp only [Act.put, List.setIfInBounds_toArray, List.set_cons_zero, List.set_cons_succ]
          refine wpAnyH_take (i := 3) (oi := ?oi4) (v := ?v4) ?hi4 (by kernel_rfl) (by kernel_rfl) (by kernel_rfl) ?hq4 ?hy4 hHeld ?rest4
          case hi4 => (simp only [List.getElem?_toArray, List.getElem?_cons_succ, List.getElem?_cons_zero]; rfl)
          case hy4 => (refine Or.inl ⟨by rfl, ?_⟩; intro w hSw; (try dsimp only at hSw); go_simp; try with_reducible rfl)
          case hq4 => exact fun _ _ _ h => h
          try simp only [Act.put, List.setIfInBounds_toArray, List.set_cons_zero, List.set_cons_succ]
          refine wpAnyH_take (i := 4) (oi := ?oi5) (v := ?v5) ?hi5 (by kernel_rfl) (by kernel_rfl) (by kernel_rfl) ?hq5 ?hy5 hHeld ?rest5
          case hi5 => (simp only [List.getElem?_toArray, List.getElem?_cons_succ, List.getElem?_cons_zero]; rfl)
          case hy5 => (refine Or.inl ⟨by rfl, ?_⟩; intro w hSw; (try dsimp only at hSw); go_simp; try with_reducible rfl)
          case hq5 => exact fun _ _ _ h => h
          try simp only [Act.put, List.setIfInBounds_toArray, List.set_cons_zero, List.set_cons_succ]
          refine wpAnyH_take (i := 5) (oi := ?oi6) (v := ?v6) ?hi6 (by kernel_rfl) (by kernel_rfl) (by kernel_rfl) ?hq6 ?hy6 hHeld ?rest6
          case hi6 => (simp only [List.getElem?_toArray, List.getElem?_cons_succ, List.getElem?_cons_zero]; rfl)
          case hy6 => (refine Or.inl ⟨by rfl, ?_⟩; intro w hSw; (try dsimp only at hSw); go_simp; try with_reducible rfl)
          case hq6 => exact fun _ _ _ h => h
          try simp only [Act.put, List.setIfInBounds_toArray, List.set_cons_zero, List.set_cons_succ]
          refine wpAnyH_take (i := 6) (oi := ?oi7) (v := ?v7) ?hi7 (by kernel_rfl) (by kernel_rfl) (by kernel_rfl) ?hq7 ?hy7 hHeld ?rest7
          case hi7 => (simp only [List.getElem?_toArray, List.getElem?_cons_succ, List.getElem?_cons_zero]; rfl)
          case hy7 => (refine Or.inl ⟨by rfl, ?_⟩; intro w hSw; (try dsimp only at hSw); go_simp; try with_reducible rfl)
          case hq7 => exact fun _ _ _ h => h
          try simp only [Act.put, List.setIfInBounds_toArray, List.set_cons_zero, List.set_cons_succ]
          refine wpAnyH_ready (rs := [7]) (by kernel_rfl) (by simp) ?_
          refine AllReadyH.cons (o := ?oi8) ?hi8 (fun K hK => ?_) AllReadyH.nil
          case hi8 => (simp only [List.getElem?_toArray, List.getElem?_cons_succ, List.getElem?_cons_zero]; rfl)
          go_simp
          go_at_call 15
          refine (suits_w (w := (w7.alloc (.cells #[.int .i64 a0, .int .i64 a1, .int .i64 a2, .int .i64 a3, .int .i64 a4] 36)).drew) HW.out (m9_suits H FG.out FF.out HS.out HG.out HXI.out E6.out)).mono ?_
          rintro e w8 ⟨rfl, hb⟩
          have HYq := Lib.hid (HY.out.trans (hb.mono HY.out.size))
          clear HY
          have HY := HYq
          clear HYq
          have HBq := Lib.hid (HB.out.trans (hb.mono HB.out.size))
          clear HB
          have HB := HBq
          clear HBq
          have HR1q := Lib.hid (HR1.out.trans (hb.mono HR1.out.size))
          clear HR1
          have HR1 := HR1q
          clear HR1q
          have HGq := Lib.hid (HG.out.next hb)
          clear HG
          have HG := HGq
          clear HGq
          have FGq := Lib.hid (FG.out.next hb)
          clear FG
          have FG := FGq
          clear FGq
          have FFq := Lib.hid (FF.out.next hb)
          clear FF
          have FF := FFq
          clear FFq
          have BXq := Lib.hid (BX.out.next hb)
          clear BX
          have BX := BXq
          clear BXq
          have FLq := Lib.hid (FL.out.next hb)
          clear FL
          have FL := FLq
          clear FLq
          have FNq := Lib.hid (FN.out.next hb)
          clear FN
          have FN := FNq
          clear FNq
          have CLq := Lib.hid (CL.out.next hb)
          clear CL
          have CL := CLq
          clear CLq
          have FUq := Lib.hid (FU.out.next hb)
          clear FU
          have FU := FUq
          clear FUq
          have FHq := Lib.hid (FH.out.next hb)
          clear FH
          have FH := FHq
          clear FHq
          have K2q := Lib.hid (K2.out.next hb)
          clear K2
          have K2 := K2q
          clear K2q
          have K3q := Lib.hid (K3.out.next hb)
          clear K3
          have K3 := K3q
          clear K3q
          have K4q := Lib.hid (K4.out.next hb)
          clear K4
          have K4 := K4q
          clear K4q
          clear hb
          try go_wp2_with fail
          clear hHeld
          refine hK.out _ _ (HKEEP.out _ HY.out) (fun hHeld => ?_)
          clear hK K
          try simp only [Act.put, List.setIfInBounds_toArray, List.set_cons_zero, List.set_cons_succ]
          refine wpAnyH_take (i := 8) (oi := ?oi9) (v := ?v9) ?hi9 (by kernel_rfl) (by kernel_rfl) (by kernel_rfl) ?hq9 ?hy9 hHeld ?rest9
          case hi9 => (simp only [List.getElem?_toArray, List.getElem?_cons_succ, List.getElem?_cons_zero]; rfl)
          case hy9 => (refine Or.inl ⟨by rfl, ?_⟩; intro w hSw; (try dsimp only at hSw); go_simp; try with_reducible rfl)
          case hq9 => exact fun _ _ _ h => h
          try simp only [Act.put, List.setIfInBounds_toArray, List.set_cons_zero, List.set_cons_succ]
          refine wpAnyH_take (i := 9) (oi := ?oi10) (v := ?v10) ?hi10 (by kernel_rfl) (by kernel_rfl) (by kernel_rfl) ?hq10 ?hy10 hHeld ?rest10
          case hi10 => (simp only [List.getElem?_toArray, List.getElem?_cons_succ, List.getElem?_cons_zero]; rfl)
          case hy10 => (refine Or.inl ⟨by rfl, ?_⟩; intro w hSw; (try dsimp only at hSw); go_simp; try with_reducible rfl)
          case hq10 => exact fun _ _ _ h => h
          try simp only [Act.put, List.setIfInBounds_toArray, List.set_cons_zero, List.set_cons_succ]
          refine wpAnyH_take (i := 10) (oi := ?oi11) (v := ?v11) ?hi11 (by kernel_rfl) (by kernel_rfl) (by kernel_rfl) ?hq11 ?hy11 hHeld ?rest11
          case hi11 => (simp only [List.getElem?_toArray, List.getElem?_cons_succ, List.getElem?_cons_zero]; rfl)
          case hy11 => (refine Or.inl ⟨by rfl, ?_⟩; intro w hSw; (try dsimp only at hSw); go_simp; try with_reducible rfl)
          case hq11 => exact fun _ _ _ h => h
          try simp only [Act.put, List.setIfInBounds_toArray, List.set_cons_zero, List.set_cons_succ]
          refine wpAnyH_take (i := 11) (oi := ?oi12) (v := ?v12) ?hi12 (by kernel_rfl) (by kernel_rfl) (by kernel_rfl) ?hq12 ?hy12 hHeld ?rest12
          case hi12 => (simp only [List.getElem?_toArray, List.getElem?_cons_succ, List.getElem?_cons_zero]; rfl)
          case hy12 => (refine Or.inl ⟨by rfl, ?_⟩; intro w hSw; (try dsimp only at hSw); go_simp; try with_reducible rfl)
          case hq12 => exact fun _ _ _ h => h
          try simp only [Act.put, List.setIfInBounds_toArray, List.set_cons_zero, List.set_cons_succ]
          refine wpAnyH_take (i := 12) (oi := ?oi13) (v := ?v13) ?hi13 (by kernel_rfl) (by kernel_rfl) (by kernel_rfl) ?hq13 ?hy13 hHeld ?rest13
          case hi13 => (simp only [List.getElem?_toArray, List.getElem?_cons_succ, List.getElem?_cons_zero]; rfl)
          case hy13 => (refine Or.inl ⟨by rfl, ?_⟩; intro w hSw; (try dsimp only at hSw); go_simp; try with_reducible rfl)
          case hq13 => exact fun _ _ _ h => h
          try simp only [Act.put, List.setIfInBounds_toArray, List.set_cons_zero, List.set_cons_succ]
          refine wpAnyH_take (i := 13) (oi := ?oi14) (v := ?v14) ?hi14 (by kernel_rfl) (by kernel_rfl) (by kernel_rfl) ?hq14 ?hy14 hHeld ?rest14
          case hi14 => (simp only [List.getElem?_toArray, List.getElem?_cons_succ, List.getElem?_cons_zero]; rfl)
          case hy14 => (refine Or.inl ⟨by rfl, ?_⟩; intro w hSw; (try dsimp only at hSw); go_simp; try with_reducible rfl)
          case hq14 => exact fun _ _ _ h => h
          try simp only [Act.put, List.setIfInBounds_toArray, List.set_cons_zero, List.set_cons_succ]
          refine wpAnyH_take (i := 14) (oi := ?oi15) (v := ?v15) ?hi15 (by kernel_rfl) (by kernel_rfl) (by kernel_rfl) ?hq15 ?hy15 hHeld ?rest15
          case hi15 => (simp only [List.getElem?_toArray, List.getElem?_cons_succ, List.getElem?_cons_zero]; rfl)
          case hy15 => (refine Or.inl ⟨by rfl, ?_⟩; intro w hSw; (try dsimp only at hSw); go_simp; try with_reducible rfl)
          case hq15 => exact fun _ _ _ h => h
          try simp only [Act.put, List.setIfInBounds_toArray, List.set_cons_zero, List.set_cons_succ]
          refine wpAnyH_take (i := 15) (oi := ?oi16) (v := ?v16) ?hi16 (by kernel_rfl) (by kernel_rfl) (by kernel_rfl) ?hq16 ?hy16 hHeld ?rest16
          case hi16 => (simp only [List.getElem?_toArray, List.getElem?_cons_succ, List.getElem?_cons_zero]; rfl)
          case hy16 => (refine Or.inl ⟨by rfl, ?_⟩; intro w hSw; (try dsimp only at hSw); go_simp; try with_reducible rfl)
          case hq16 => exact fun _ _ _ h => h
          try simp only [Act.put, List.setIfInBounds_toArray, List.set_cons_zero, List.set_cons_succ]
          refine wpAnyH_take (i := 16) (oi := ?oi17) (v := ?v17) ?hi17 (by kernel_rfl) (by kernel_rfl) (by kernel_rfl) ?hq17 ?hy17 hHeld ?rest17
          case hi17 => (simp only [List.getElem?_toArray, List.getElem?_cons_succ, List.getElem?_cons_zero]; rfl)
          case hy17 => (refine Or.inl ⟨by rfl, ?_⟩; intro w hSw; (try dsimp only at hSw); go_simp; try with_reducible rfl)
          case hq17 => exact fun _ _ _ h => h
          try simp only [Act.put, List.setIfInBounds_toArray, List.set_cons_zero, List.set_cons_succ]
          refine wpAnyH_take (i := 17) (oi := ?oi18) (v := ?v18) ?hi18 (by kernel_rfl) (by kernel_rfl) (by kernel_rfl) ?hq18 ?hy18 hHeld ?rest18
          case hi18 => (simp only [List.getElem?_toArray, List.getElem?_cons_succ, List.getElem?_cons_zero]; rfl)
          case hy18 => (refine Or.inl ⟨by rfl, ?_⟩; intro w hSw; (try dsimp only at hSw); go_simp; try with_reducible rfl)
          case hq18 => exact fun _ _ _ h => h
          try simp only [Act.put, List.setIfInBounds_toArray, List.set_cons_zero, List.set_cons_succ]
          refine wpAnyH_take (i := 18) (oi := ?oi19) (v := ?v19) ?hi19 (by kernel_rfl) (by kernel_rfl) (by kernel_rfl) ?hq19 ?hy19 hHeld ?rest19
          case hi19 => (simp only [List.getElem?_toArray, List.getElem?_cons_succ, List.getElem?_cons_zero]; rfl)
          case hy19 => (refine Or.inl ⟨by rfl, ?_⟩; intro w hSw; (try dsimp only at hSw); go_simp; try with_reducible rfl)
          case hq19 => exact fun _ _ _ h => h
          try simp only [Act.put, List.setIfInBounds_toArray, List.set_cons_zero, List.set_cons_succ]
          refine wpAnyH_take (i := 19) (oi := ?oi20) (v := ?v20) ?hi20 (by kernel_rfl) (by kernel_rfl) (by kernel_rfl) ?hq20 ?hy20 hHeld ?rest20
          case hi20 => (simp only [List.getElem?_toArray, List.getElem?_cons_succ, List.getElem?_cons_zero]; rfl)
          case hy20 => (refine Or.inl ⟨by rfl, ?_⟩; intro w hSw; (try dsimp only at hSw); go_simp; try with_reducible rfl)
          case hq20 => exact fun _ _ _ h => h
          try simp only [Act.put, List.setIfInBounds_toArray, List.set_cons_zero, List.set_cons_succ]
          refine wpAnyH_ready (rs := [20]) (by kernel_rfl) (by simp) ?_
          refine AllReadyH.cons (o := ?oi21) ?hi21 (fun K hK => ?_) AllReadyH.nil
          case hi21 => (simp only [List.getElem?_toArray, List.getElem?_cons_succ, List.getElem?_cons_zero]; rfl)
          go_simp
          go_at_call 13
          refine (calls_ipost (GO.under _ _ _ _ _ w8 FG.out HXI.out HG.out) HU.out).mono ?_
          rintro e w9 ⟨⟨Av, cv, rfl, hrv, hnilv, hcv⟩, hb⟩
          have HYq := Lib.hid (HY.out.trans (hb.mono HY.out.size))
          clear HY
          have HY := HYq
          clear HYq
          have HBq := Lib.hid (HB.out.trans (hb.mono HB.out.size))
          clear HB
          have HB := HBq
          clear HBq
          have HR1q := Lib.hid (HR1.out.trans (hb.mono HR1.out.size))
          clear HR1
          have HR1 := HR1q
          clear HR1q
          have HGq := Lib.hid (HG.out.next hb)
          clear HG
          have HG := HGq
          clear HGq
          have FGq := Lib.hid (FG.out.next hb)
          clear FG
          have FG := FGq
          clear FGq
          have FFq := Lib.hid (FF.out.next hb)
          clear FF
          have FF := FFq
          clear FFq
          have BXq := Lib.hid (BX.out.next hb)
          clear BX
          have BX := BXq
          clear BXq
          have FLq := Lib.hid (FL.out.next hb)
          clear FL
          have FL := FLq
          clear FLq
          have FNq := Lib.hid (FN.out.next hb)
          clear FN
          have FN := FNq
          clear FNq
          have CLq := Lib.hid (CL.out.next hb)
          clear CL
          have CL := CLq
          clear CLq
          have FUq := Lib.hid (FU.out.next hb)
          clear FU
          have FU := FUq
          clear FUq
          have FHq := Lib.hid (FH.out.next hb)
          clear FH
          have FH := FHq
          clear FHq
          have K2q := Lib.hid (K2.out.next hb)
          clear K2
          have K2 := K2q
          clear K2q
          have K3q := Lib.hid (K3.out.next hb)
          clear K3
          have K3 := K3q
          clear K3q
          have K4q := Lib.hid (K4.out.next hb)
          clear K4
          have K4 := K4q
          clear K4q
          clear hb
          try go_wp2_with fail
          clear hHeld
          refine hK.out _ _ (HKEEP.out _ HY.out) (fun hHeld => ?_)
          clear hK K
          try simp only [Act.put, List.setIfInBounds_toArray, List.set_cons_zero, List.set_cons_succ]
          refine wpAnyH_take (i := 21) (oi := ?oi22) (v := ?v22) ?hi22 (by kernel_rfl) (by kernel_rfl) (by kernel_rfl) ?hq22 ?hy22 hHeld ?rest22
          case hi22 => (simp only [List.getElem?_toArray, List.getElem?_cons_succ, List.getElem?_cons_zero]; rfl)
          case hy22 => (refine Or.inl ⟨by rfl, ?_⟩; intro w hSw; (try dsimp only at hSw); go_simp; try with_reducible rfl)
          case hq22 => exact fun _ _ _ h => h
          try simp only [Act.put, List.setIfInBounds_toArray, List.set_cons_zero, List.set_cons_succ]
          refine wpAnyH_take (i := 22) (oi := ?oi23) (v := ?v23) ?hi23 (by kernel_rfl) (by kernel_rfl) (by kernel_rfl) ?hq23 ?hy23 hHeld ?rest23
          case hi23 => (simp only [List.getElem?_toArray, List.getElem?_cons_succ, List.getElem?_cons_zero]; rfl)
          case hy23 => (refine Or.inl ⟨by rfl, ?_⟩; intro w hSw; (try dsimp only at hSw); go_simp; try with_reducible rfl)
          case hq23 => exact fun _ _ _ h => h
          try simp only [Act.put, List.setIfInBounds_toArray, List.set_cons_zero, List.set_cons_succ]
          refine wpAnyH_take (i := 23) (oi := ?oi24) (v := ?v24) ?hi24 (by kernel_rfl) (by kernel_rfl) (by kernel_rfl) ?hq24 ?hy24 hHeld ?rest24
          case hi24 => (simp only [List.getElem?_toArray, List.getElem?_cons_succ, List.getElem?_cons_zero]; rfl)
          case hy24 => (refine Or.inl ⟨by rfl, ?_⟩; intro w hSw; (try dsimp only at hSw); go_simp; try with_reducible rfl)
          case hq24 => exact fun _ _ _ h => h
          try simp only [Act.put, List.setIfInBounds_toArray, List.set_cons_zero, List.set_cons_succ]
          refine wpAnyH_take (i := 24) (oi := ?oi25) (v := ?v25) ?hi25 (by kernel_rfl) (by kernel_rfl) (by kernel_rfl) ?hq25 ?hy25 hHeld ?rest25
          case hi25 => (simp only [List.getElem?_toArray, List.getElem?_cons_succ, List.getElem?_cons_zero]; rfl)
          case hy25 => (refine Or.inl ⟨by rfl, ?_⟩; intro w hSw; (try dsimp only at hSw); go_simp; try with_reducible rfl)
          case hq25 => exact fun _ _ _ h => h
          try simp only [Act.put, List.setIfInBounds_toArray, List.set_cons_zero, List.set_cons_succ]
          refine wpAnyH_take (i := 25) (oi := ?oi26) (v := ?v26) ?hi26 (by kernel_rfl) (by kernel_rfl) (by kernel_rfl) ?hq26 ?hy26 hHeld ?rest26
          case hi26 => (simp only [List.getElem?_toArray, List.getElem?_cons_succ, List.getElem?_cons_zero]; rfl)
          case hy26 => (refine Or.inl ⟨by rfl, ?_⟩; intro w hSw; (try dsimp only at hSw); go_simp; try with_reducible rfl)
          case hq26 => exact fun _ _ _ h => h
          try simp only [Act.put, List.setIfInBounds_toArray, List.set_cons_zero, List.set_cons_succ]
          refine wpAnyH_take (i := 26) (oi := ?oi27) (v := ?v27) ?hi27 (by kernel_rfl) (by kernel_rfl) (by kernel_rfl) ?hq27 ?hy27 hHeld ?rest27
          case hi27 => (simp only [List.getElem?_toArray, List.getElem?_cons_succ, List.getElem?_cons_zero]; rfl)
          case hy27 => (refine Or.inl ⟨by rfl, ?_⟩; intro w hSw; (try dsimp only at hSw); go_simp; try with_reducible rfl)
          case hq27 => exact fun _ _ _ h => h
          try simp only [Act.put, List.setIfInBounds_toArray, List.set_cons_zero, List.set_cons_succ]
          refine wpAnyH_take (i := 27) (oi := ?oi28) (v := ?v28) ?hi28 (by kernel_rfl) (by kernel_rfl) (by kernel_rfl) ?hq28 ?hy28 hHeld ?rest28
          case hi28 => (simp only [List.getElem?_toArray, List.getElem?_cons_succ, List.getElem?_cons_zero]; rfl)
          case hy28 => (refine Or.inl ⟨by rfl, ?_⟩; intro w hSw; (try dsimp only at hSw); go_simp; try with_reducible rfl)
          case hq28 => exact fun _ _ _ h => h
          try simp only [Act.put, List.setIfInBounds_toArray, List.set_cons_zero, List.set_cons_succ]
          refine wpAnyH_take (i := 28) (oi := ?oi29) (v := ?v29) ?hi29 (by kernel_rfl) (by kernel_rfl) (by kernel_rfl) ?hq29 ?hy29 hHeld ?rest29
          case hi29 => (simp only [List.getElem?_toArray, List.getElem?_cons_succ, List.getElem?_cons_zero]; rfl)
          case hy29 => (refine Or.inl ⟨by rfl, ?_⟩; intro w hSw; (try dsimp only at hSw); go_simp; try with_reducible rfl)
          case hq29 => exact fun _ _ _ h => h
          try simp only [Act.put, List.setIfInBounds_toArray, List.set_cons_zero, List.set_cons_succ]
          refine wpAnyH_take (i := 29) (oi := ?oi30) (v := ?v30) ?hi30 (by kernel_rfl) (by kernel_rfl) (by kernel_rfl) ?hq30 ?hy30 hHeld ?rest30
          case hi30 => (simp only [List.getElem?_toArray, List.getElem?_cons_succ, List.getElem?_cons_zero]; rfl)
          case hy30 => (refine Or.inl ⟨by rfl, ?_⟩; intro w hSw; (try dsimp only at hSw); go_simp; try with_reducible rfl)
          case hq30 => exact fun _ _ _ h => h
          try simp only [Act.put, List.setIfInBounds_toArray, List.set_cons_zero, List.set_cons_succ]
          refine wpAnyH_take (i := 30) (oi := ?oi31) (v := undef) ?hi31 (by kernel_rfl) (by kernel_rfl) (by kernel_rfl) ?hq31 ?hy31 hHeld ?rest31
          case hi31 => (simp only [List.getElem?_toArray, List.getElem?_cons_succ, List.getElem?_cons_zero]; rfl)
          case hy31 => exact Or.inr ⟨by rfl, rfl⟩
          case hq31 => exact fun _ _ _ h => h
          try simp only [Act.put, List.setIfInBounds_toArray, List.set_cons_zero, List.set_cons_succ]
          refine wpAnyH_take (i := 31) (oi := ?oi32) (v := undef) ?hi32 (by kernel_rfl) (by kernel_rfl) (by kernel_rfl) ?hq32 ?hy32 hHeld ?rest32
          case hi32 => (simp only [List.getElem?_toArray, List.getElem?_cons_succ, List.getElem?_cons_zero]; rfl)
          case hy32 => exact Or.inr ⟨by rfl, rfl⟩
          case hq32 => exact fun _ _ _ h => h
          try simp only [Act.put, List.setIfInBounds_toArray, List.set_cons_zero, List.set_cons_succ]
          refine wpAnyH_take (i := 32) (oi := ?oi33) (v := undef) ?hi33 (by kernel_rfl) (by kernel_rfl) (by kernel_rfl) ?hq33 ?hy33 hHeld ?rest33
          case hi33 => (simp only [List.getElem?_toArray, List.getElem?_cons_succ, List.getElem?_cons_zero]; rfl)
          case hy33 => exact Or.inr ⟨by rfl, rfl⟩
          case hq33 => exact fun _ _ _ h => h
          try simp only [Act.put, List.setIfInBounds_toArray, List.set_cons_zero, List.set_cons_succ]
          refine wpAnyH_take (i := 33) (oi := ?oi34) (v := undef) ?hi34 (by kernel_rfl) (by kernel_rfl) (by kernel_rfl) ?hq34 ?hy34 hHeld ?rest34
          case hi34 => (simp only [List.getElem?_toArray, List.getElem?_cons_succ, List.getElem?_cons_zero]; rfl)
          case hy34 => exact Or.inr ⟨by rfl, rfl⟩
          case hq34 => exact fun _ _ _ h => h
          try simp only [Act.put, List.setIfInBounds_toArray, List.set_cons_zero, List.set_cons_succ]
          refine wpAnyH_take (i := 34) (oi := ?oi35) (v := undef) ?hi35 (by kernel_rfl) (by kernel_rfl) (by kernel_rfl) ?hq35 ?hy35 hHeld ?rest35
          case hi35 => (simp only [List.getElem?_toArray, List.getElem?_cons_succ, List.getElem?_cons_zero]; rfl)
          case hy35 => exact Or.inr ⟨by rfl, rfl⟩
          case hq35 => exact fun _ _ _ h => h
          try simp only [Act.put, List.setIfInBounds_toArray, List.set_cons_zero, List.set_cons_succ]
          refine wpAnyH_take (i := 35) (oi := ?oi36) (v := undef) ?hi36 (by kernel_rfl) (by kernel_rfl) (by kernel_rfl) ?hq36 ?hy36 hHeld ?rest36
          case hi36 => (simp only [List.getElem?_toArray, List.getElem?_cons_succ, List.getElem?_cons_zero]; rfl)
          case hy36 => exact Or.inr ⟨by rfl, rfl⟩
          case hq36 => exact fun _ _ _ h => h
          try simp only [Act.put, List.setIfInBounds_toArray, List.set_cons_zero, List.set_cons_succ]
          refine wpAnyH_take (i := 36) (oi := ?oi37) (v := undef) ?hi37 (by kernel_rfl) (by kernel_rfl) (by kernel_rfl) ?hq37 ?hy37 hHeld ?rest37
          case hi37 => (simp only [List.getElem?_toArray, List.getElem?_cons_succ, List.getElem?_cons_zero]; rfl)
          case hy37 => exact Or.inr ⟨by rfl, rfl⟩
          case hq37 => exact fun _ _ _ h => h
          try simp only [Act.put, List.setIfInBounds_toArray, List.set_cons_zero, List.set_cons_succ]
          refine wpAnyH_take (i := 37) (oi := ?oi38) (v := undef) ?hi38 (by kernel_rfl) (by kernel_rfl) (by kernel_rfl) ?hq38 ?hy38 hHeld ?rest38
          case hi38 => (simp only [List.getElem?_toArray, List.getElem?_cons_succ, List.getElem?_cons_zero]; rfl)
          case hy38 => exact Or.inr ⟨by rfl, rfl⟩
          case hq38 => exact fun _ _ _ h => h
          try simp only [Act.put, List.setIfInBounds_toArray, List.set_cons_zero, List.set_cons_succ]
          refine wpAnyH_take (i := 38) (oi := ?oi39) (v := undef) ?hi39 (by kernel_rfl) (by kernel_rfl) (by kernel_rfl) ?hq39 ?hy39 hHeld ?rest39
          case hi39 => (simp only [List.getElem?_toArray, List.getElem?_cons_succ, List.getElem?_cons_zero]; rfl)
          case hy39 => exact Or.inr ⟨by rfl, rfl⟩
          case hq39 => exact fun _ _ _ h => h
          try simp only [Act.put, List.setIfInBounds_toArray, List.set_cons_zero, List.set_cons_succ]
          refine wpAnyH_take (i := 39) (oi := ?oi40) (v := undef) ?hi40 (by kernel_rfl) (by kernel_rfl) (by kernel_rfl) ?hq40 ?hy40 hHeld ?rest40
          case hi40 => (simp only [List.getElem?_toArray, List.getElem?_cons_succ, List.getElem?_cons_zero]; rfl)
          case hy40 => exact Or.inr ⟨by rfl, rfl⟩
          case hq40 => exact fun _ _ _ h => h
          try simp only [Act.put, List.setIfInBounds_toArray, List.set_cons_zero, List.set_cons_succ]
          refine wpAnyH_take (i := 40) (oi := ?oi41) (v := undef) ?hi41 (by kernel_rfl) (by kernel_rfl) (by kernel_rfl) ?hq41 ?hy41 hHeld ?rest41
          case hi41 => (simp only [List.getElem?_toArray, List.getElem?_cons_succ, List.getElem?_cons_zero]; rfl)
          case hy41 => exact Or.inr ⟨by rfl, rfl⟩
          case hq41 => exact fun _ _ _ h => h
          try simp only [Act.put, List.setIfInBounds_toArray, List.set_cons_zero, List.set_cons_succ]
          refine wpAnyH_take (i := 41) (oi := ?oi42) (v := undef) ?hi42 (by kernel_rfl) (by kernel_rfl) (by kernel_rfl) ?hq42 ?hy42 hHeld ?rest42
          case hi42 => (simp only [List.getElem?_toArray, List.getElem?_cons_succ, List.getElem?_cons_zero]; rfl)
          case hy42 => exact Or.inr ⟨by rfl, rfl⟩
          case hq42 => exact fun _ _ _ h => h
          try simp only [Act.put, List.setIfInBounds_toArray, List.set_cons_zero, List.set_cons_succ]
          refine wpAnyH_take (i := 42) (oi := ?oi43) (v := undef) ?hi43 (by kernel_rfl) (by kernel_rfl) (by kernel_rfl) ?hq43 ?hy43 hHeld ?rest43
          case hi43 => (simp only [List.getElem?_toArray, List.getElem?_cons_succ, List.getElem?_cons_zero]; rfl)
          case hy43 => exact Or.inr ⟨by rfl, rfl⟩
          case hq43 => exact fun _ _ _ h => h
          try simp only [Act.put, List.setIfInBounds_toArray, List.set_cons_zero, List.set_cons_succ]
          refine wpAnyH_take (i := 43) (oi := ?oi44) (v := undef) ?hi44 (by kernel_rfl) (by kernel_rfl) (by kernel_rfl) ?hq44 ?hy44 hHeld ?rest44
          case hi44 => (simp only [List.getElem?_toArray, List.getElem?_cons_succ, List.getElem?_cons_zero]; rfl)
          case hy44 => exact Or.inr ⟨by rfl, rfl⟩
          case hq44 => exact fun _ _ _ h => h
          try simp only [Act.put, List.setIfInBounds_toArray, List.set_cons_zero, List.set_cons_succ]
          refine wpAnyH_take (i := 44) (oi := ?oi45) (v := undef) ?hi45 (by kernel_rfl) (by kernel_rfl) (by kernel_rfl) ?hq45 ?hy45 hHeld ?rest45
          case hi45 => (simp only [List.getElem?_toArray, List.getElem?_cons_succ, List.getElem?_cons_zero]; rfl)
          case hy45 => exact Or.inr ⟨by rfl, rfl⟩
          case hq45 => exact fun _ _ _ h => h
          try simp only [Act.put, List.setIfInBounds_toArray, List.set_cons_zero, List.set_cons_succ]
          refine wpAnyH_take (i := 45) (oi := ?oi46) (v := undef) ?hi46 (by kernel_rfl) (by kernel_rfl) (by kernel_rfl) ?hq46 ?hy46 hHeld ?rest46
          case hi46 => (simp only [List.getElem?_toArray, List.getElem?_cons_succ, List.getElem?_cons_zero]; rfl)
          case hy46 => exact Or.inr ⟨by rfl, rfl⟩
          case hq46 => exact fun _ _ _ h => h
          try simp only [Act.put, List.setIfInBounds_toArray, List.set_cons_zero, List.set_cons_succ]
          refine wpAnyH_take (i := 46) (oi := ?oi47) (v := undef) ?hi47 (by kernel_rfl) (by kernel_rfl) (by kernel_rfl) ?hq47 ?hy47 hHeld ?rest47
          case hi47 => (simp only [List.getElem?_toArray, List.getElem?_cons_succ, List.getElem?_cons_zero]; rfl)
          case hy47 => exact Or.inr ⟨by rfl, rfl⟩
          case hq47 => exact fun _ _ _ h => h
          try simp only [Act.put, List.setIfInBounds_toArray, List.set_cons_zero, List.set_cons_succ]
          refine wpAnyH_take (i := 47) (oi := ?oi48) (v := ?v48) ?hi48 (by kernel_rfl) (by kernel_rfl) (by kernel_rfl) ?hq48 ?hy48 hHeld ?rest48
          case hi48 => (simp only [List.getElem?_toArray, List.getElem?_cons_succ, List.getElem?_cons_zero]; rfl)
          case hy48 => (refine Or.inl ⟨by rfl, ?_⟩; intro w hSw; (try dsimp only at hSw); go_simp; try with_reducible rfl)
          case hq48 => exact fun _ _ _ h => h
          try simp only [Act.put, List.setIfInBounds_toArray, List.set_cons_zero, List.set_cons_succ]
          refine wpAnyH_take (i := 48) (oi := ?oi49) (v := ?v49) ?hi49 (by kernel_rfl) (by kernel_rfl) (by kernel_rfl) ?hq49 ?hy49 hHeld ?rest49
          case hi49 => (simp only [List.getElem?_toArray, List.getElem?_cons_succ, List.getElem?_cons_zero]; rfl)
          case hy49 => (refine Or.inl ⟨by rfl, ?_⟩; intro w hSw; (try dsimp only at hSw); go_simp; try with_reducible rfl)
          case hq49 => exact fun _ _ _ h => h
          try simp only [Act.put, List.setIfInBounds_toArray, List.set_cons_zero, List.set_cons_succ]
          refine wpAnyH_take (i := 49) (oi := ?oi50) (v := ?v50) ?hi50 (by kernel_rfl) (by kernel_rfl) (by kernel_rfl) ?hq50 ?hy50 hHeld ?rest50
          case hi50 => (simp only [List.getElem?_toArray, List.getElem?_cons_succ, List.getElem?_cons_zero]; rfl)
          case hy50 => (refine Or.inl ⟨by rfl, ?_⟩; intro w hSw; (try dsimp only at hSw); go_simp; try with_reducible rfl)
          case hq50 => exact fun _ _ _ h => h
          try simp only [Act.put, List.setIfInBounds_toArray, List.set_cons_zero, List.set_cons_succ]
          refine wpAnyH_take (i := 50) (oi := ?oi51) (v := ?v51) ?hi51 (by kernel_rfl) (by kernel_rfl) (by kernel_rfl) ?hq51 ?hy51 hHeld ?rest51
          case hi51 => (simp only [List.getElem?_toArray, List.getElem?_cons_succ, List.getElem?_cons_zero]; rfl)
          case hy51 => (refine Or.inl ⟨by rfl, ?_⟩; intro w hSw; (try dsimp only at hSw); go_simp; try with_reducible rfl)
          case hq51 => exact fun _ _ _ h => h
          try simp only [Act.put, List.setIfInBounds_toArray, List.set_cons_zero, List.set_cons_succ]
          refine wpAnyH_take (i := 51) (oi := ?oi52) (v := ?v52) ?hi52 (by kernel_rfl) (by kernel_rfl) (by kernel_rfl) ?hq52 ?hy52 hHeld ?rest52
          case hi52 => (simp only [List.getElem?_toArray, List.getElem?_cons_succ, List.getElem?_cons_zero]; rfl)
          case hy52 => (refine Or.inl ⟨by rfl, ?_⟩; intro w hSw; (try dsimp only at hSw); go_simp; try with_reducible rfl)
          case hq52 => exact fun _ _ _ h => h
          try simp only [Act.put, List.setIfInBounds_toArray, List.set_cons_zero, List.set_cons_succ]
          refine wpAnyH_take (i := 52) (oi := ?oi53) (v := ?v53) ?hi53 (by kernel_rfl) (by kernel_rfl) (by kernel_rfl) ?hq53 ?hy53 hHeld ?rest53
          case hi53 => (simp only [List.getElem?_toArray, List.getElem?_cons_succ, List.getElem?_cons_zero]; rfl)
          case hy53 => (refine Or.inl ⟨by rfl, ?_⟩; intro w hSw; (try dsimp only at hSw); go_simp; try with_reducible rfl)
          case hq53 => exact fun _ _ _ h => h
          try simp only [Act.put, List.setIfInBounds_toArray, List.set_cons_zero, List.set_cons_succ]
          refine wpAnyH_take (i := 53) (oi := ?oi54) (v := ?v54) ?hi54 (by kernel_rfl) (by kernel_rfl) (by kernel_rfl) ?hq54 ?hy54 hHeld ?rest54
          case hi54 => (simp only [List.getElem?_toArray, List.getElem?_cons_succ, List.getElem?_cons_zero]; rfl)
          case hy54 => (refine Or.inl ⟨by rfl, ?_⟩; intro w hSw; (try dsimp only at hSw); go_simp; try with_reducible rfl)
          case hq54 => exact fun _ _ _ h => h
          try simp only [Act.put, List.setIfInBounds_toArray, List.set_cons_zero, List.set_cons_succ]
          refine wpAnyH_take (i := 54) (oi := ?oi55) (v := ?v55) ?hi55 (by kernel_rfl) (by kernel_rfl) (by kernel_rfl) ?hq55 ?hy55 hHeld ?rest55
          case hi55 => (simp only [List.getElem?_toArray, List.getElem?_cons_succ, List.getElem?_cons_zero]; rfl)
          case hy55 => (refine Or.inl ⟨by rfl, ?_⟩; intro w hSw; (try dsimp only at hSw); go_simp; try with_reducible rfl)
          case hq55 => exact fun _ _ _ h => h
          try simp only [Act.put, List.setIfInBounds_toArray, List.set_cons_zero, List.set_cons_succ]
          refine wpAnyH_take (i := 55) (oi := ?oi56) (v := ?v56) ?hi56 (by kernel_rfl) (by kernel_rfl) (by kernel_rfl) ?hq56 ?hy56 hHeld ?rest56
          case hi56 => (simp only [List.getElem?_toArray, List.getElem?_cons_succ, List.getElem?_cons_zero]; rfl)
          case hy56 => (refine Or.inl ⟨by rfl, ?_⟩; intro w hSw; (try dsimp only at hSw); go_simp; try with_reducible rfl)
          case hq56 => exact fun _ _ _ h => h
          try simp only [Act.put, List.setIfInBounds_toArray, List.set_cons_zero, List.set_cons_succ]
          refine wpAnyH_take (i := 56) (oi := ?oi57) (v := ?v57) ?hi57 (by kernel_rfl) (by kernel_rfl) (by kernel_rfl) ?hq57 ?hy57 hHeld ?rest57
          case hi57 => (simp only [List.getElem?_toArray, List.getElem?_cons_succ, List.getElem?_cons_zero]; rfl)
          case hy57 => (refine Or.inl ⟨by rfl, ?_⟩; intro w hSw; (try dsimp only at hSw); go_simp; try with_reducible rfl)
          case hq57 => exact fun _ _ _ h => h
          try simp only [Act.put, List.setIfInBounds_toArray, List.set_cons_zero, List.set_cons_succ]
          refine wpAnyH_take (i := 57) (oi := ?oi58) (v := ?v58) ?hi58 (by kernel_rfl) (by kernel_rfl) (by kernel_rfl) ?hq58 ?hy58 hHeld ?rest58
          case hi58 => (simp only [List.getElem?_toArray, List.getElem?_cons_succ, List.getElem?_cons_zero]; rfl)
          case hy58 => (refine Or.inl ⟨by rfl, ?_⟩; intro w hSw; (try dsimp only at hSw); go_simp; try with_reducible rfl)
          case hq58 => exact fun _ _ _ h => h
          try simp only [Act.put, List.setIfInBounds_toArray, List.set_cons_zero, List.set_cons_succ]
          refine wpAnyH_take (i := 58) (oi := ?oi59) (v := ?v59) ?hi59 (by kernel_rfl) (by kernel_rfl) (by kernel_rfl) ?hq59 ?hy59 hHeld ?rest59
          case hi59 => (simp only [List.getElem?_toArray, List.getElem?_cons_succ, List.getElem?_cons_zero]; rfl)
          case hy59 => (refine Or.inl ⟨by rfl, ?_⟩; intro w hSw; (try dsimp only at hSw); go_simp; try with_reducible rfl)
          case hq59 => exact fun _ _ _ h => h
          try simp only [Act.put, List.setIfInBounds_toArray, List.set_cons_zero, List.set_cons_succ]
          refine wpAnyH_take (i := 59) (oi := ?oi60) (v := ?v60) ?hi60 (by kernel_rfl) (by kernel_rfl) (by kernel_rfl) ?hq60 ?hy60 hHeld ?rest60
          case hi60 => (simp only [List.getElem?_toArray, List.getElem?_cons_succ, List.getElem?_cons_zero]; rfl)
          case hy60 => (refine Or.inl ⟨by rfl, ?_⟩; intro w hSw; (try dsimp only at hSw); go_simp; try with_reducible rfl)
          case hq60 => exact fun _ _ _ h => h
          try simp only [Act.put, List.setIfInBounds_toArray, List.set_cons_zero, List.set_cons_succ]
          refine wpAnyH_take (i := 60) (oi := ?oi61) (v := ?v61) ?hi61 (by kernel_rfl) (by kernel_rfl) (by kernel_rfl) ?hq61 ?hy61 hHeld ?rest61
          case hi61 => (simp only [List.getElem?_toArray, List.getElem?_cons_succ, List.getElem?_cons_zero]; rfl)
          case hy61 => (refine Or.inl ⟨by rfl, ?_⟩; intro w hSw; (try dsimp only at hSw); go_simp; try with_reducible rfl)
          case hq61 => exact fun _ _ _ h => h
          try simp only [Act.put, List.setIfInBounds_toArray, List.set_cons_zero, List.set_cons_succ]
          refine wpAnyH_take (i := 61) (oi := ?oi62) (v := ?v62) ?hi62 (by kernel_rfl) (by kernel_rfl) (by kernel_rfl) ?hq62 ?hy62 hHeld ?rest62
          case hi62 => (simp only [List.getElem?_toArray, List.getElem?_cons_succ, List.getElem?_cons_zero]; rfl)
          case hy62 => (refine Or.inl ⟨by rfl, ?_⟩; intro w hSw; (try dsimp only at hSw); go_simp; try with_reducible rfl)
          case hq62 => exact fun _ _ _ h => h
          try simp only [Act.put, List.setIfInBounds_toArray, List.set_cons_zero, List.set_cons_succ]
          refine wpAnyH_take (i := 62) (oi := ?oi63) (v := ?v63) ?hi63 (by kernel_rfl) (by kernel_rfl) (by kernel_rfl) ?hq63 ?hy63 hHeld ?rest63
          case hi63 => (simp only [List.getElem?_toArray, List.getElem?_cons_succ, List.getElem?_cons_zero]; rfl)
          case hy63 => (refine Or.inl ⟨by rfl, ?_⟩; intro w hSw; (try dsimp only at hSw); go_simp; try with_reducible rfl)
          case hq63 => exact fun _ _ _ h => h
          try simp only [Act.put, List.setIfInBounds_toArray, List.set_cons_zero, List.set_cons_succ]
          refine wpAnyH_done (by kernel_rfl) ?_ _
          clear HKEEP HY hHeld
          go_wp2
          go_roundw
          case rel => exact ⟨k + 1, by omega, by go_num, by rw [HSN.out]; go_num, HR1.out⟩
          case measure => simp [intOf]; omega
        · have hw' : s.whole = false := by simpa using hw
          obtain ⟨hk3, hk4, hk2⟩ := here_kinds HR.out HSR.out hse hw'
          have HW := Lib.hid hw'
          obtain ⟨a0, h0⟩ : ∃ v, kc g Hl 0 = v := ⟨_, rfl⟩
          obtain ⟨a1, h1⟩ : ∃ v, kc g Hl 1 = v := ⟨_, rfl⟩
          rw [hHl] at hk2 hk3 hk4
          have HKV : Hid (kVal g Hl = .agg #[.int .i64 a0, .int .i64 a1, .int .i64 0, .int .i64 s.cores, .int .i64 s.gpus]) := Lib.hid (by unfold kVal; rw [h0, h1, hk2, hk3, hk4])
          clear hsucc hse hHl hU hpos hw hw' h0 h1 hk2 hk3 hk4 hhl
          have cl := CL.out.at'
          go_wp2_with fail
          refine (calls_ipost (GO.under _ _ _ _ _ _ FG.out HXI.out HG.out) HU.out).mono ?_
          rintro e w5 ⟨⟨Au, cu, rfl, hru, hnilu, hcu⟩, hb⟩
          have HBq := Lib.hid (HB.out.trans (hb.mono HB.out.size))
          clear HB
          have HB := HBq
          clear HBq
          have HR1q := Lib.hid (HR1.out.trans (hb.mono HR1.out.size))
          clear HR1
          have HR1 := HR1q
          clear HR1q
          have HGq := Lib.hid (HG.out.next hb)
          clear HG
          have HG := HGq
          clear HGq
          have FGq := Lib.hid (FG.out.next hb)
          clear FG
          have FG := FGq
          clear FGq
          have FFq := Lib.hid (FF.out.next hb)
          clear FF
          have FF := FFq
          clear FFq
          have BXq := Lib.hid (BX.out.next hb)
          clear BX
          have BX := BXq
          clear BXq
          have FLq := Lib.hid (FL.out.next hb)
          clear FL
          have FL := FLq
          clear FLq
          have FNq := Lib.hid (FN.out.next hb)
          clear FN
          have FN := FNq
          clear FNq
          have CLq := Lib.hid (CL.out.next hb)
          clear CL
          have CL := CLq
          clear CLq
          clear hb
          have FU := Lib.hid (LAsk.mk hru hnilu hcu (by have := HUN.out; omega) HUI.out)
          clear hru hnilu hcu cl
          go_wp2_with fail
          refine (calls_ipost (s_meet FL.out.reads FU.out.reads (ml300 FL.out.few) (ml300 FU.out.few) HG.out) HME.out).mono ?_
          rintro e w6 ⟨⟨Am, cm, rfl, hrm, hnilm, hcm⟩, hb⟩
          have HBq := Lib.hid (HB.out.trans (hb.mono HB.out.size))
          clear HB
          have HB := HBq
          clear HBq
          have HR1q := Lib.hid (HR1.out.trans (hb.mono HR1.out.size))
          clear HR1
          have HR1 := HR1q
          clear HR1q
          have HGq := Lib.hid (HG.out.next hb)
          clear HG
          have HG := HGq
          clear HGq
          have FGq := Lib.hid (FG.out.next hb)
          clear FG
          have FG := FGq
          clear FGq
          have FFq := Lib.hid (FF.out.next hb)
          clear FF
          have FF := FFq
          clear FFq
          have BXq := Lib.hid (BX.out.next hb)
          clear BX
          have BX := BXq
          clear BXq
          have FLq := Lib.hid (FL.out.next hb)
          clear FL
          have FL := FLq
          clear FLq
          have FNq := Lib.hid (FN.out.next hb)
          clear FN
          have FN := FNq
          clear FNq
          have CLq := Lib.hid (CL.out.next hb)
          clear CL
          have CL := CLq
          clear CLq
          have FUq := Lib.hid (FU.out.next hb)
          clear FU
          have FU := FUq
          clear FUq
          clear hb
          have FH := Lib.hid (LAsk.mk hrm hnilm hcm (by have := HHN.out; omega) HHI.out)
          clear hrm hnilm hcm
          rw [HHL.out] at FH
          rw [HHL.out]
          go_wp2_with fail
          refine (calls_kinds (GO.kinds _ _ _ _ _ _ _ _ _ FG.out FH.out HG.out) HKV.out).mono ?_
          rintro e w7 ⟨rfl, hb⟩
          have HBq := Lib.hid (HB.out.trans (hb.mono HB.out.size))
          clear HB
          have HB := HBq
          clear HBq
          have HR1q := Lib.hid (HR1.out.trans (hb.mono HR1.out.size))
          clear HR1
          have HR1 := HR1q
          clear HR1q
          have HGq := Lib.hid (HG.out.next hb)
          clear HG
          have HG := HGq
          clear HGq
          have FGq := Lib.hid (FG.out.next hb)
          clear FG
          have FG := FGq
          clear FGq
          have FFq := Lib.hid (FF.out.next hb)
          clear FF
          have FF := FFq
          clear FFq
          have BXq := Lib.hid (BX.out.next hb)
          clear BX
          have BX := BXq
          clear BXq
          have FLq := Lib.hid (FL.out.next hb)
          clear FL
          have FL := FLq
          clear FLq
          have FNq := Lib.hid (FN.out.next hb)
          clear FN
          have FN := FNq
          clear FNq
          have CLq := Lib.hid (CL.out.next hb)
          clear CL
          have CL := CLq
          clear CLq
          have FUq := Lib.hid (FU.out.next hb)
          clear FU
          have FU := FUq
          clear FUq
          have FHq := Lib.hid (FH.out.next hb)
          clear FH
          have FH := FHq
          clear FHq
          clear hb
          go_wp2
          have hb := Below.alloc (Below.refl w7.heap.size w7) (Nat.le_refl _) (.cells #[.int .i64 a0, .int .i64 a1, .int .i64 0, .int .i64 s.cores, .int .i64 s.gpus] 36)
          have K2q := Lib.hid (cellk_arr w7 a0 a1 0 s.cores s.gpus 36 (j := 2) rfl)
          have K3q := Lib.hid (cellk_arr w7 a0 a1 0 s.cores s.gpus 36 (j := 3) rfl)
          have K4q := Lib.hid (cellk_arr w7 a0 a1 0 s.cores s.gpus 36 (j := 4) rfl)
          have HBq := Lib.hid (HB.out.trans (hb.mono HB.out.size))
          clear HB
          have HB := HBq
          clear HBq
          have HR1q := Lib.hid (HR1.out.trans (hb.mono HR1.out.size))
          clear HR1
          have HR1 := HR1q
          clear HR1q
          have HGq := Lib.hid (HG.out.next hb)
          clear HG
          have HG := HGq
          clear HGq
          have FGq := Lib.hid (FG.out.next hb)
          clear FG
          have FG := FGq
          clear FGq
          have FFq := Lib.hid (FF.out.next hb)
          clear FF
          have FF := FFq
          clear FFq
          have BXq := Lib.hid (BX.out.next hb)
          clear BX
          have BX := BXq
          clear BXq
          have FLq := Lib.hid (FL.out.next hb)
          clear FL
          have FL := FLq
          clear FLq
          have FNq := Lib.hid (FN.out.next hb)
          clear FN
          have FN := FNq
          clear FNq
          have CLq := Lib.hid (CL.out.next hb)
          clear CL
          have CL := CLq
          clear CLq
          have FUq := Lib.hid (FU.out.next hb)
          clear FU
          have FU := FUq
          clear FUq
          have FHq := Lib.hid (FH.out.next hb)
          clear FH
          have FH := FHq
          clear FHq
          clear hb
          have K2 := K2q
          clear K2q
          have K3 := K3q
          clear K3q
          have K4 := K4q
          clear K4q
          have zc0 : ∀ p : Later (w7.alloc (.cells #[.int .i64 a0, .int .i64 a1, .int .i64 0, .int .i64 s.cores, .int .i64 s.gpus] 36)), p.now.cell? ⟨w.heap.size, 0, none⟩ = some (.int .i64 s.nodes) := fun _ => Later.cell BX.out.lt BX.out.c0
          have zc1 : ∀ p : Later (w7.alloc (.cells #[.int .i64 a0, .int .i64 a1, .int .i64 0, .int .i64 s.cores, .int .i64 s.gpus] 36)), p.now.cell? ⟨w.heap.size, 1, none⟩ = some (.int .i64 s.cores) := fun _ => Later.cell BX.out.lt BX.out.c1
          have zc2 : ∀ p : Later (w7.alloc (.cells #[.int .i64 a0, .int .i64 a1, .int .i64 0, .int .i64 s.cores, .int .i64 s.gpus] 36)), p.now.cell? ⟨w.heap.size, 2, none⟩ = some (.int .i64 s.gpus) := fun _ => Later.cell BX.out.lt BX.out.c2
          have zc3 : ∀ p : Later (w7.alloc (.cells #[.int .i64 a0, .int .i64 a1, .int .i64 0, .int .i64 s.cores, .int .i64 s.gpus] 36)), p.now.cell? ⟨w.heap.size, 3, none⟩ = some (.string s.tag) := fun _ => Later.cell BX.out.lt BX.out.c3
          have zc4 : ∀ p : Later (w7.alloc (.cells #[.int .i64 a0, .int .i64 a1, .int .i64 0, .int .i64 s.cores, .int .i64 s.gpus] 36)), p.now.cell? ⟨w.heap.size, 4, none⟩ = some (.bool false) := fun _ => Later.cell BX.out.lt (by rw [← HW.out]; exact BX.out.c4)
          have zc5 : ∀ p : Later (w7.alloc (.cells #[.int .i64 a0, .int .i64 a1, .int .i64 0, .int .i64 s.cores, .int .i64 s.gpus] 36)), p.now.cell? ⟨w.heap.size, 5, none⟩ = some (.int .i64 s.long) := fun _ => Later.cell BX.out.lt BX.out.c5
          have zc6 : ∀ p : Later (w7.alloc (.cells #[.int .i64 a0, .int .i64 a1, .int .i64 0, .int .i64 s.cores, .int .i64 s.gpus] 36)), p.now.cell? ⟨w.heap.size, 6, none⟩ = some (.int .i64 s.prio) := fun _ => Later.cell BX.out.lt BX.out.c6
          have zc7 : ∀ p : Later (w7.alloc (.cells #[.int .i64 a0, .int .i64 a1, .int .i64 0, .int .i64 s.cores, .int .i64 s.gpus] 36)), p.now.cell? ⟨bl, ol + k, none⟩ = some (.int .i64 (x : Int)) := fun _ => Later.cell CL.out.lt CL.out.at'
          have zc8 : ∀ p : Later (w7.alloc (.cells #[.int .i64 a0, .int .i64 a1, .int .i64 0, .int .i64 s.cores, .int .i64 s.gpus] 36)), p.now.cell? ⟨w7.heap.size, 2, none⟩ = some (.int .i64 0) := fun _ => Later.cell K2.out.lt K2.out.at'
          have zc9 : ∀ p : Later (w7.alloc (.cells #[.int .i64 a0, .int .i64 a1, .int .i64 0, .int .i64 s.cores, .int .i64 s.gpus] 36)), p.now.cell? ⟨w7.heap.size, 3, none⟩ = some (.int .i64 s.cores) := fun _ => Later.cell K3.out.lt K3.out.at'
          have zc10 : ∀ p : Later (w7.alloc (.cells #[.int .i64 a0, .int .i64 a1, .int .i64 0, .int .i64 s.cores, .int .i64 s.gpus] 36)), p.now.cell? ⟨w7.heap.size, 4, none⟩ = some (.int .i64 s.gpus) := fun _ => Later.cell K4.out.lt K4.out.at'
          refine wp_region_later (by kernel_rfl) (by kernel_rfl) ?_
          repeat (first | go_big_quiet_skip | (go_big_quiet_want; go_big_quiet_op; first | go_big_quiet_on | (apply Exists.intro; refine ⟨fun pz => ?_, ?_⟩; (first | (go_at_call 15; exact Calls.later_of (suits_f HW.out (m9_suits H (FG.out.next pz.bel) (FF.out.next pz.bel) HS.out (HG.out.next pz.bel) HXI.out E6.out))) | fail); go_big_quiet_on)))
          refine wpQuiet_nil ?_
          intro _ hw'
          obtain ⟨pz, rfl⟩ := hw'
          obtain ⟨w8, hb⟩ := pz
          try dsimp only
          clear zc0 zc1 zc2 zc3 zc4 zc5 zc6 zc7 zc8 zc9 zc10
          have HBq := Lib.hid (HB.out.trans (hb.mono HB.out.size))
          clear HB
          have HB := HBq
          clear HBq
          have HR1q := Lib.hid (HR1.out.trans (hb.mono HR1.out.size))
          clear HR1
          have HR1 := HR1q
          clear HR1q
          have HGq := Lib.hid (HG.out.next hb)
          clear HG
          have HG := HGq
          clear HGq
          have FGq := Lib.hid (FG.out.next hb)
          clear FG
          have FG := FGq
          clear FGq
          have FFq := Lib.hid (FF.out.next hb)
          clear FF
          have FF := FFq
          clear FFq
          have BXq := Lib.hid (BX.out.next hb)
          clear BX
          have BX := BXq
          clear BXq
          have FLq := Lib.hid (FL.out.next hb)
          clear FL
          have FL := FLq
          clear FLq
          have FNq := Lib.hid (FN.out.next hb)
          clear FN
          have FN := FNq
          clear FNq
          have CLq := Lib.hid (CL.out.next hb)
          clear CL
          have CL := CLq
          clear CLq
          have FUq := Lib.hid (FU.out.next hb)
          clear FU
          have FU := FUq
          clear FUq
          have FHq := Lib.hid (FH.out.next hb)
          clear FH
          have FH := FHq
          clear FHq
          have K2q := Lib.hid (K2.out.next hb)
          clear K2
          have K2 := K2q
          clear K2q
          have K3q := Lib.hid (K3.out.next hb)
          clear K3
          have K3 := K3q
          clear K3q
          have K4q := Lib.hid (K4.out.next hb)
          clear K4
          have K4 := K4q
          clear K4q
          clear hb
          go_wp2
          go_roundw
          case rel => exact ⟨k + 1, by omega, by go_num, by rw [HSN.out]; go_num, HR1.out⟩
          case measure => simp [intOf]; omega
    · have hkl : k = L.length := by omega
      have hall := selN_all HE.out
      rw [HL.out] at hall
      rw [hkl]
      obtain ⟨sn, hsn⟩ : ∃ v, selN g F s L.length = v := ⟨_, rfl⟩
      rw [hsn] at hall ⊢
      have d0 : ((sn : Int) == s.nodes) = true := by rw [beq_iff_eq]; exact hall
      have hlt2 : ¬ L.length < L.length := Nat.lt_irrefl _
      clear hsn hall
      clear FL FN
      clear HR1
      have q0 := BX.out.c0
      have q1 := BX.out.c1
      have q2 := BX.out.c2
      have q3 := BX.out.c3
      have q4 := BX.out.c4
      have q5 := BX.out.c5
      have q6 := BX.out.c6
      go_wp2
      go_ret
      exact ⟨rfl, HB.out⟩

theorem matchFits_walk (H : MatchOk) (GO : GraphOk) (HSP : SpecOk) (A : Option Addr) (n c : Nat) (A2 : Option Addr) (n2 c2 : Nat) (g : Gr) (F : List Int) (s : Sp) (w : World) (hr : RG w w.heap.size A n g) (hnil : A = none → c = 0) (hnc : n ≤ c) (hn : n ≤ maxLen) (hr2 : RI w w.heap.size A2 n2 F) (hj2 : ∀ x ∈ F, I64 x) (hnil2 : A2 = none → c2 = 0) (hnc2 : n2 ≤ c2) (hn2 : n2 ≤ maxLen) (hs : SAsk s) (hG : Glob w) :
    Calls Tryd.prog 3 #[.slice A n c, .slice A2 n2 c2, .agg #[.int .i64 s.nodes, .int .i64 s.cores, .int .i64 s.gpus, .string s.tag, .bool s.whole, .int .i64 s.long, .int .i64 s.prio]] w fun e w' => e = .returned (.bool true) ∧ Below w.heap.size w w' := by
  by_cases h60 : 60 < n
  · exact matchFits_l0 H GO A n c A2 n2 c2 s w h60 hn hG
  · by_cases h300 : 300 < n2
    · exact matchFits_l1 H GO A n c A2 n2 c2 s w h60 h300 hn2 hG
    · cases h : hadB g F s with
      | false =>
        cases h2 : rightS s with
        | false => exact matchFits_no0 H GO HSP A n c A2 n2 c2 g F s w ⟨hr, hnil, hnc, by omega⟩ ⟨hr2, hnil2, hnc2, by omega, hj2⟩ hs h60 hG h h2
        | true => exact matchFits_no1 H GO HSP A n c A2 n2 c2 g F s w ⟨hr, hnil, hnc, by omega⟩ ⟨hr2, hnil2, hnc2, by omega, hj2⟩ hs h60 hG h h2
      | true => exact matchFits_yes H GO HSP A n c A2 n2 c2 g F s w ⟨hr, hnil, hnc, by omega⟩ ⟨hr2, hnil2, hnc2, by omega, hj2⟩ hs h60 hG h

end Go.Proofs.YtglboolijhekkaaDoor
