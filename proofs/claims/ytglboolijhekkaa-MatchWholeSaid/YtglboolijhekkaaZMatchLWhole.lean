/- The statement MatchWhole, as a walk over the contracts: of any graph, numbers and spec the call returns true. Written by gen/gen_matchwhole.py. -/
import Derived.LoopTactic
import Derived.Test.YtglboolijhekkaaMg05
namespace Go.Proofs.Ytglboolijhekkaa
open Go.RowKit

theorem whole_ask {s : Sp} {b : Bool} (h : SAsk s) : SAsk (wholeS s b) := ⟨h.nodes, h.cores, h.gpus, h.tag, h.long, h.prio⟩
theorem node_i64 {g : Gr} (h : rightG g = true) {x : Nat} (hx : x < g.length) : I64 (x : Int) := i64_small (by have := (rightG_is h).few; omega)
set_option maxRecDepth 100000 in
set_option maxHeartbeats 8000000 in
theorem matchWhole_l0 (H : MatchOk) (GO : GraphOk) (A : Option Addr) (n c : Nat) (A2 : Option Addr) (n2 c2 : Nat) (s : Sp) (w : World) (h60 : 60 < n) (_ : n ≤ maxLen) (hG : Glob w) :
    Calls Try.prog 5 #[.slice A n c, .slice A2 n2 c2, .agg #[.int .i64 s.nodes, .int .i64 s.cores, .int .i64 s.gpus, .string s.tag, .bool s.whole, .int .i64 s.long, .int .i64 s.prio]] w fun e w' => e = .returned (.bool true) ∧ Below w.heap.size w w' := by
  obtain ⟨W, hW⟩ : ∃ W, W = w.alloc (spO s) := ⟨_, rfl⟩
  have BX : Hid (BoxS W w.heap.size s) := Lib.hid (by rw [hW]; exact box_new w s)
  have hb0 : Below w.heap.size w W := by rw [hW]; exact (Below.refl _ _).alloc (Nat.le_refl _) _
  have HB := Lib.hid hb0
  have HG := Lib.hid (hG.next hb0)
  unfold spO at hW
  have h60d : decide ((60 : Int) < (n : Int)) = true := by simp; omega
  unfold maxLen at *
  clear hb0 hG BX
  go_enter Try.func5, Try.ntmps5
  go_wp2_with fail
  rw [← hW]
  refine (awake9_any H GO _ HG.out).mono ?_
  rintro e w1 ⟨rfl, hb⟩
  have HBq := Lib.hid (HB.out.trans (hb.mono HB.out.size))
  clear HB
  have HB := HBq
  clear HBq
  have HGq := Lib.hid (HG.out.next hb)
  clear HG
  have HG := HGq
  clear HGq
  clear hb
  go_wp2
  go_ret
  exact ⟨rfl, HB.out⟩

set_option maxRecDepth 100000 in
set_option maxHeartbeats 8000000 in
theorem matchWhole_l1 (H : MatchOk) (GO : GraphOk) (A : Option Addr) (n c : Nat) (A2 : Option Addr) (n2 c2 : Nat) (s : Sp) (w : World) (h60 : ¬ 60 < n) (h300 : 300 < n2) (_ : n2 ≤ maxLen) (hG : Glob w) :
    Calls Try.prog 5 #[.slice A n c, .slice A2 n2 c2, .agg #[.int .i64 s.nodes, .int .i64 s.cores, .int .i64 s.gpus, .string s.tag, .bool s.whole, .int .i64 s.long, .int .i64 s.prio]] w fun e w' => e = .returned (.bool true) ∧ Below w.heap.size w w' := by
  obtain ⟨W, hW⟩ : ∃ W, W = w.alloc (spO s) := ⟨_, rfl⟩
  have BX : Hid (BoxS W w.heap.size s) := Lib.hid (by rw [hW]; exact box_new w s)
  have hb0 : Below w.heap.size w W := by rw [hW]; exact (Below.refl _ _).alloc (Nat.le_refl _) _
  have HB := Lib.hid hb0
  have HG := Lib.hid (hG.next hb0)
  unfold spO at hW
  have h60d : decide ((60 : Int) < (n : Int)) = false := by simp; omega
  have h300d : decide ((300 : Int) < (n2 : Int)) = true := by simp; omega
  unfold maxLen at *
  clear hb0 hG BX
  go_enter Try.func5, Try.ntmps5
  go_wp2_with fail
  rw [← hW]
  refine (awake9_any H GO _ HG.out).mono ?_
  rintro e w1 ⟨rfl, hb⟩
  have HBq := Lib.hid (HB.out.trans (hb.mono HB.out.size))
  clear HB
  have HB := HBq
  clear HBq
  have HGq := Lib.hid (HG.out.next hb)
  clear HG
  have HG := HGq
  clear HGq
  clear hb
  go_wp2
  go_ret
  exact ⟨rfl, HB.out⟩

set_option maxRecDepth 100000 in
set_option maxHeartbeats 8000000 in
theorem matchWhole_no (H : MatchOk) (GO : GraphOk) (A : Option Addr) (n c : Nat) (A2 : Option Addr) (n2 c2 : Nat) (g : Gr) (F : List Int) (s : Sp) (w : World) (hg : GAsk w A n c g) (hf : LAsk w A2 n2 c2 F) (hs : SAsk s) (h60 : ¬ 60 < n) (hG : Glob w) (h : hadB g F (wholeS s true) = false) :
    Calls Try.prog 5 #[.slice A n c, .slice A2 n2 c2, .agg #[.int .i64 s.nodes, .int .i64 s.cores, .int .i64 s.gpus, .string s.tag, .bool s.whole, .int .i64 s.long, .int .i64 s.prio]] w fun e w' => e = .returned (.bool true) ∧ Below w.heap.size w w' := by
  have e1 := findL_no h
  have E1 := Lib.hid e1
  have E2 := Lib.hid h
  obtain ⟨W, hW⟩ : ∃ W, W = w.alloc (spO s) := ⟨_, rfl⟩
  have BX : Hid (BoxS W w.heap.size s) := Lib.hid (by rw [hW]; exact box_new w s)
  have hb0 : Below w.heap.size w W := by rw [hW]; exact (Below.refl _ _).alloc (Nat.le_refl _) _
  have HB := Lib.hid hb0
  have HG := Lib.hid (hG.next hb0)
  have FG0 := Lib.hid hg
  have FF0 := Lib.hid hf
  have HG0 := Lib.hid hG
  have HS1 := Lib.hid (whole_ask (b := true) hs)
  have HS2 := Lib.hid (whole_ask (b := false) hs)
  have h60d : decide ((60 : Int) < (n : Int)) = false := by simp; omega
  have h300d : decide ((300 : Int) < (n2 : Int)) = false := by have := hf.few; simp; omega
  unfold spO at hW
  clear hb0 hg hf hs hG h60 h e1
  go_enter Try.func5, Try.ntmps5
  go_wp2_with fail
  rw [← hW]
  refine (awake9_any H GO _ HG.out).mono ?_
  rintro e w1 ⟨rfl, hb⟩
  have HBq := Lib.hid (HB.out.trans (hb.mono HB.out.size))
  clear HB
  have HB := HBq
  clear HBq
  have BXq := Lib.hid (BX.out.next hb)
  clear BX
  have BX := BXq
  clear BXq
  clear hb
  clear hW
  have q0 := BX.out.c0
  have q1 := BX.out.c1
  have q2 := BX.out.c2
  have q3 := BX.out.c3
  have q4 := BX.out.c4
  have q5 := BX.out.c5
  have q6 := BX.out.c6
  have qf := BX.out.frozen 4
  have HBs := Lib.hid (HB.out.setCell (p := ⟨w.heap.size, 4, none⟩) (Nat.le_refl _) (.bool true))
  have BXs := Lib.hid (BX.out.set (j := 4) (v := .bool true) (s' := (wholeS s true)) rfl)
  clear HB BX
  have HB := HBs
  have BX := BXs
  clear HBs BXs
  go_wp2_with fail
  refine (m9_find H (FG0.out.next HB.out) (FF0.out.next HB.out) HS1.out (HG0.out.next HB.out) E1.out E2.out).mono ?_
  rintro e w2 ⟨⟨A2, c2, rfl, hr2, hnil2, hc2⟩, hb⟩
  have HBq := Lib.hid (HB.out.trans (hb.mono HB.out.size))
  clear HB
  have HB := HBq
  clear HBq
  have BXq := Lib.hid (BX.out.next hb)
  clear BX
  have BX := BXq
  clear BXq
  clear hb
  clear hr2 hnil2 hc2
  clear q0 q1 q2 q3 q4 q5 q6
  clear qf
  go_wp2
  go_ret
  exact ⟨rfl, HB.out⟩

set_option maxRecDepth 100000 in
set_option maxHeartbeats 8000000 in
theorem matchWhole_yes (H : MatchOk) (GO : GraphOk) (A : Option Addr) (n c : Nat) (A2 : Option Addr) (n2 c2 : Nat) (g : Gr) (F : List Int) (s : Sp) (w : World) (hg : GAsk w A n c g) (hf : LAsk w A2 n2 c2 F) (hs : SAsk s) (h60 : ¬ 60 < n) (hG : Glob w) (h : hadB g F (wholeS s true) = true) :
    Calls Try.prog 5 #[.slice A n c, .slice A2 n2 c2, .agg #[.int .i64 s.nodes, .int .i64 s.cores, .int .i64 s.gpus, .string s.tag, .bool s.whole, .int .i64 s.long, .int .i64 s.prio]] w fun e w' => e = .returned (.bool true) ∧ Below w.heap.size w w' := by
  have hr := (mayB_is (hadB_is.1 h).1).1
  have HR := Lib.hid hr
  have HE := Lib.hid h
  have hll := findL_few (g := g) (F := F) (s := (wholeS s true))
  have hli := findL_i64 (g := g) (F := F) (s := (wholeS s true))
  obtain ⟨l, e1⟩ : ∃ r, findL g F (wholeS s true) = r := ⟨_, rfl⟩
  rw [e1] at hll hli
  have HLN := Lib.hid hll
  have HLI := Lib.hid hli
  have E1 := Lib.hid e1
  have E2 := Lib.hid h
  have hnn := nodesL_len (g := g)
  have hni := nodesL_i64 (g := g)
  obtain ⟨L, hL⟩ : ∃ L, nodesL g = L := ⟨_, rfl⟩
  rw [hL] at hnn hni
  have HNN := Lib.hid hnn
  have HNI := Lib.hid hni
  have HL := Lib.hid hL
  obtain ⟨W, hW⟩ : ∃ W, W = w.alloc (spO s) := ⟨_, rfl⟩
  have BX : Hid (BoxS W w.heap.size s) := Lib.hid (by rw [hW]; exact box_new w s)
  have hb0 : Below w.heap.size w W := by rw [hW]; exact (Below.refl _ _).alloc (Nat.le_refl _) _
  have HB := Lib.hid hb0
  have HG := Lib.hid (hG.next hb0)
  have FG0 := Lib.hid hg
  have FF0 := Lib.hid hf
  have HG0 := Lib.hid hG
  have HS1 := Lib.hid (whole_ask (b := true) hs)
  have HS2 := Lib.hid (whole_ask (b := false) hs)
  have h60d : decide ((60 : Int) < (n : Int)) = false := by simp; omega
  have h300d : decide ((300 : Int) < (n2 : Int)) = false := by have := hf.few; simp; omega
  unfold spO at hW
  clear hb0 hg hf hs hG h60 h e1 hll hli hnn hni hL hr
  go_enter Try.func5, Try.ntmps5
  go_wp2_with fail
  rw [← hW]
  refine (awake9_any H GO _ HG.out).mono ?_
  rintro e w1 ⟨rfl, hb⟩
  have HBq := Lib.hid (HB.out.trans (hb.mono HB.out.size))
  clear HB
  have HB := HBq
  clear HBq
  have BXq := Lib.hid (BX.out.next hb)
  clear BX
  have BX := BXq
  clear BXq
  clear hb
  clear hW
  have q0 := BX.out.c0
  have q1 := BX.out.c1
  have q2 := BX.out.c2
  have q3 := BX.out.c3
  have q4 := BX.out.c4
  have q5 := BX.out.c5
  have q6 := BX.out.c6
  have qf := BX.out.frozen 4
  have HBs := Lib.hid (HB.out.setCell (p := ⟨w.heap.size, 4, none⟩) (Nat.le_refl _) (.bool true))
  have BXs := Lib.hid (BX.out.set (j := 4) (v := .bool true) (s' := (wholeS s true)) rfl)
  clear HB BX
  have HB := HBs
  have BX := BXs
  clear HBs BXs
  go_wp2_with fail
  refine (m9_find H (FG0.out.next HB.out) (FF0.out.next HB.out) HS1.out (HG0.out.next HB.out) E1.out E2.out).mono ?_
  rintro e w2 ⟨⟨A2, c2, rfl, hr2, hnil2, hc2⟩, hb⟩
  have HBq := Lib.hid (HB.out.trans (hb.mono HB.out.size))
  clear HB
  have HB := HBq
  clear HBq
  have BXq := Lib.hid (BX.out.next hb)
  clear BX
  have BX := BXq
  clear BXq
  clear hb
  have FL := Lib.hid (LAsk.mk hr2 hnil2 hc2 (by have := HLN.out; omega) HLI.out)
  clear hr2 hnil2 hc2
  clear q0 q1 q2 q3 q4 q5 q6
  clear qf
  go_wp2_with fail
  refine (calls_ipost (GO.nodes _ _ _ _ _ (FG0.out.next HB.out) (HG0.out.next HB.out)) HL.out).mono ?_
  rintro e w3 ⟨⟨A3, c3, rfl, hr3, hnil3, hc3⟩, hb⟩
  have HBq := Lib.hid (HB.out.trans (hb.mono HB.out.size))
  clear HB
  have HB := HBq
  clear HBq
  have BXq := Lib.hid (BX.out.next hb)
  clear BX
  have BX := BXq
  clear BXq
  have FLq := Lib.hid (FL.out.next hb)
  clear FL
  have FL := FLq
  clear FLq
  clear hb
  have FN := Lib.hid (LAsk.mk hr3 hnil3 hc3 (by have := HNN.out; omega) HNI.out)
  clear hr3 hnil3 hc3
  go_wp2
  go_loopw [10, 11] (fun mv i wr => ∃ k : Nat, k ≤ L.length ∧ i = .int .i64 k ∧ mv = .int .i64 (selN g F (wholeS s true) k : Nat) ∧ Below w3.heap.size w3 wr) (fun _ i _ => L.length - (intOf i).toNat)
  case atStart => exact ⟨0, Nat.zero_le _, rfl, rfl, Below.refl _ _⟩
  case round =>
    obtain ⟨k, hk, rfl, rfl, hrel⟩ := hrel
    have HR0 := Lib.hid hrel
    have hb := hrel
    clear hrel
    have HBq := Lib.hid (HB.out.trans (hb.mono HB.out.size))
    clear HB
    have HB := HBq
    clear HBq
    have BXq := Lib.hid (BX.out.next hb)
    clear BX
    have BX := BXq
    clear BXq
    have FLq := Lib.hid (FL.out.next hb)
    clear FL
    have FL := FLq
    clear FLq
    have FNq := Lib.hid (FN.out.next hb)
    clear FN
    have FN := FNq
    clear FNq
    clear hb
    have HR1 := Lib.hid HR0.out
    clear HR0
    by_cases hlt : k < L.length
    · obtain ⟨x, hx1, hx2, hx3, _, _⟩ := node_facts HR.out (by rw [HL.out]; exact hlt)
      have hsucc := selN_succ (F := F) (s := (wholeS s true)) (by rw [HL.out]; exact hlt) hx1
      rw [HL.out] at hx1
      have hwn := whole_node HE.out (show (wholeS s true).whole = true from rfl) hx2 hx3
      have hsl := selN_le (g := g) (F := F) (s := (wholeS s true)) k
      rw [HL.out] at hsl
      have hln := HNN.out
      have HXI : Hid (I64 (x : Int)) := Lib.hid (node_i64 HR.out hx2)
      obtain ⟨bl, ol, rfl, hcl⟩ := cell_list FN.out.reads hlt hx1
      have CL := Lib.hid hcl
      have hun := underL_len (g := g) (x : Int)
      have hui := underL_i64 (g := g) (x : Int)
      obtain ⟨U, hU⟩ : ∃ U, underL g (x : Int) = U := ⟨_, rfl⟩
      rw [hU] at hwn hun hui
      rw [E1.out] at hwn
      have HU := Lib.hid hU
      have HUN := Lib.hid hun
      have HUI := Lib.hid hui
      obtain ⟨sn, hsn⟩ : ∃ v, selN g F (wholeS s true) k = v := ⟨_, rfl⟩
      rw [hsn] at hsl hsucc ⊢
      have hsn300 : sn ≤ 300 := by omega
      have hk300 : k < 300 := by omega
      clear hcl hx1 hU hun hui hsn hsl hln
      cases hse : selP g F (wholeS s true) x with
      | true =>
        have HP := Lib.hid (hwn.1 hse)
        rw [hse, if_pos rfl] at hsucc
        have HSN := Lib.hid hsucc
        clear hsucc hwn hse
        have cl := CL.out.at'
        go_wp2_with fail
        refine (calls_ipost (GO.under _ _ _ _ _ _ (FG0.out.next HB.out) HXI.out (HG0.out.next HB.out)) HU.out).mono ?_
        rintro e w4 ⟨⟨Au, cu, rfl, hru, hnilu, hcu⟩, hb⟩
        have HBq := Lib.hid (HB.out.trans (hb.mono HB.out.size))
        clear HB
        have HB := HBq
        clear HBq
        have HR1q := Lib.hid (HR1.out.trans (hb.mono HR1.out.size))
        clear HR1
        have HR1 := HR1q
        clear HR1q
        have BXq := Lib.hid (BX.out.next hb)
        clear BX
        have BX := BXq
        clear BXq
        have FLq := Lib.hid (FL.out.next hb)
        clear FL
        have FL := FLq
        clear FLq
        have FNq := Lib.hid (FN.out.next hb)
        clear FN
        have FN := FNq
        clear FNq
        have CLq := Lib.hid (CL.out.next hb)
        clear CL
        have CL := CLq
        clear CLq
        clear hb
        have FU := Lib.hid (LAsk.mk hru hnilu hcu (by have := HUN.out; omega) HUI.out)
        clear hru hnilu hcu cl
        go_wp2_with fail
        refine (s_part FU.out.reads FL.out.reads (ml300 FU.out.few) (ml300 FL.out.few) HP.out).mono ?_
        rintro e w5 ⟨rfl, hb⟩
        have HBq := Lib.hid (HB.out.trans (hb.mono HB.out.size))
        clear HB
        have HB := HBq
        clear HBq
        have HR1q := Lib.hid (HR1.out.trans (hb.mono HR1.out.size))
        clear HR1
        have HR1 := HR1q
        clear HR1q
        have BXq := Lib.hid (BX.out.next hb)
        clear BX
        have BX := BXq
        clear BXq
        have FLq := Lib.hid (FL.out.next hb)
        clear FL
        have FL := FLq
        clear FLq
        have FNq := Lib.hid (FN.out.next hb)
        clear FN
        have FN := FNq
        clear FNq
        have CLq := Lib.hid (CL.out.next hb)
        clear CL
        have CL := CLq
        clear CLq
        have FUq := Lib.hid (FU.out.next hb)
        clear FU
        have FU := FUq
        clear FUq
        clear hb
        go_wp2
        go_roundw
        case rel => exact ⟨k + 1, by omega, by go_num, by rw [HSN.out]; go_num, HR1.out⟩
        case measure => simp [intOf]; omega
      | false =>
        have HP := Lib.hid (hwn.2 hse).1
        have HA := Lib.hid (hwn.2 hse).2
        rw [hse, if_neg (by simp), Nat.add_zero] at hsucc
        have HSN := Lib.hid hsucc
        clear hsucc hwn hse
        have cl := CL.out.at'
        go_wp2_with fail
        refine (calls_ipost (GO.under _ _ _ _ _ _ (FG0.out.next HB.out) HXI.out (HG0.out.next HB.out)) HU.out).mono ?_
        rintro e w4 ⟨⟨Au, cu, rfl, hru, hnilu, hcu⟩, hb⟩
        have HBq := Lib.hid (HB.out.trans (hb.mono HB.out.size))
        clear HB
        have HB := HBq
        clear HBq
        have HR1q := Lib.hid (HR1.out.trans (hb.mono HR1.out.size))
        clear HR1
        have HR1 := HR1q
        clear HR1q
        have BXq := Lib.hid (BX.out.next hb)
        clear BX
        have BX := BXq
        clear BXq
        have FLq := Lib.hid (FL.out.next hb)
        clear FL
        have FL := FLq
        clear FLq
        have FNq := Lib.hid (FN.out.next hb)
        clear FN
        have FN := FNq
        clear FNq
        have CLq := Lib.hid (CL.out.next hb)
        clear CL
        have CL := CLq
        clear CLq
        clear hb
        have FU := Lib.hid (LAsk.mk hru hnilu hcu (by have := HUN.out; omega) HUI.out)
        clear hru hnilu hcu cl
        go_wp2_with fail
        refine (s_part FU.out.reads FL.out.reads (ml300 FU.out.few) (ml300 FL.out.few) HP.out).mono ?_
        rintro e w5 ⟨rfl, hb⟩
        have HBq := Lib.hid (HB.out.trans (hb.mono HB.out.size))
        clear HB
        have HB := HBq
        clear HBq
        have HR1q := Lib.hid (HR1.out.trans (hb.mono HR1.out.size))
        clear HR1
        have HR1 := HR1q
        clear HR1q
        have BXq := Lib.hid (BX.out.next hb)
        clear BX
        have BX := BXq
        clear BXq
        have FLq := Lib.hid (FL.out.next hb)
        clear FL
        have FL := FLq
        clear FLq
        have FNq := Lib.hid (FN.out.next hb)
        clear FN
        have FN := FNq
        clear FNq
        have CLq := Lib.hid (CL.out.next hb)
        clear CL
        have CL := CLq
        clear CLq
        have FUq := Lib.hid (FU.out.next hb)
        clear FU
        have FU := FUq
        clear FUq
        clear hb
        go_wp2_with fail
        refine (s_apart FU.out.reads FL.out.reads (ml300 FU.out.few) (ml300 FL.out.few) HA.out).mono ?_
        rintro e w6 ⟨rfl, hb⟩
        have HBq := Lib.hid (HB.out.trans (hb.mono HB.out.size))
        clear HB
        have HB := HBq
        clear HBq
        have HR1q := Lib.hid (HR1.out.trans (hb.mono HR1.out.size))
        clear HR1
        have HR1 := HR1q
        clear HR1q
        have BXq := Lib.hid (BX.out.next hb)
        clear BX
        have BX := BXq
        clear BXq
        have FLq := Lib.hid (FL.out.next hb)
        clear FL
        have FL := FLq
        clear FLq
        have FNq := Lib.hid (FN.out.next hb)
        clear FN
        have FN := FNq
        clear FNq
        have CLq := Lib.hid (CL.out.next hb)
        clear CL
        have CL := CLq
        clear CLq
        have FUq := Lib.hid (FU.out.next hb)
        clear FU
        have FU := FUq
        clear FUq
        clear hb
        go_wp2
        go_roundw
        case rel => exact ⟨k + 1, by omega, by go_num, by rw [HSN.out]; rfl, HR1.out⟩
        case measure => simp [intOf]; omega
    · have hkl : k = L.length := by omega
      have hall := selN_all HE.out
      rw [HL.out] at hall
      rw [hkl]
      obtain ⟨sn, hsn⟩ : ∃ v, selN g F (wholeS s true) L.length = v := ⟨_, rfl⟩
      rw [hsn] at hall ⊢
      have d0 : ((sn : Int) == (wholeS s false).nodes) = true := by rw [beq_iff_eq]; exact hall
      have hlt2 : ¬ L.length < L.length := Nat.lt_irrefl _
      clear hsn hall
      by_cases hc : 0 < s.cores
      · clear FL FN
        clear HR1
        have dc : decide ((0 : Int) < (wholeS s false).cores) = true := decide_eq_true hc
        have E4 : Hid (hadB g F (wholeS s false) = true) := Lib.hid (by rw [whole_had HE.out]; exact decide_eq_true (.inl hc))
        obtain ⟨l4, e3⟩ : ∃ r, findL g F (wholeS s false) = r := ⟨_, rfl⟩
        have E3 := Lib.hid e3
        clear e3
        have q0 := BX.out.c0
        have q1 := BX.out.c1
        have q2 := BX.out.c2
        have q3 := BX.out.c3
        have q4 := BX.out.c4
        have q5 := BX.out.c5
        have q6 := BX.out.c6
        have qf := BX.out.frozen 4
        have HBs := Lib.hid (HB.out.setCell (p := ⟨w.heap.size, 4, none⟩) (Nat.le_refl _) (.bool false))
        have BXs := Lib.hid (BX.out.set (j := 4) (v := .bool false) (s' := (wholeS s false)) rfl)
        clear HB BX
        have HB := HBs
        have BX := BXs
        clear HBs BXs
        go_wp2_with fail
        refine (m9_find H (FG0.out.next HB.out) (FF0.out.next HB.out) HS2.out (HG0.out.next HB.out) E3.out E4.out).mono ?_
        rintro e w4 ⟨⟨Az, cz, rfl, hrz, hnilz, hcz⟩, hb⟩
        have HBq := Lib.hid (HB.out.trans (hb.mono HB.out.size))
        clear HB
        have HB := HBq
        clear HBq
        have BXq := Lib.hid (BX.out.next hb)
        clear BX
        have BX := BXq
        clear BXq
        clear hb
        clear hrz hnilz hcz
        clear q0 q1 q2 q3 q4 q5 q6
        clear qf
        have q0 := BX.out.c0
        have q1 := BX.out.c1
        have q2 := BX.out.c2
        have q3 := BX.out.c3
        have q4 := BX.out.c4
        have q5 := BX.out.c5
        have q6 := BX.out.c6
        go_wp2
        go_ret
        exact ⟨rfl, HB.out⟩
      · by_cases hp : 0 < s.gpus
        · clear FL FN
          clear HR1
          have dc : decide ((0 : Int) < (wholeS s false).cores) = false := decide_eq_false hc
          have dp : decide ((0 : Int) < (wholeS s false).gpus) = true := decide_eq_true hp
          have E4 : Hid (hadB g F (wholeS s false) = true) := Lib.hid (by rw [whole_had HE.out]; exact decide_eq_true (.inr hp))
          obtain ⟨l4, e3⟩ : ∃ r, findL g F (wholeS s false) = r := ⟨_, rfl⟩
          have E3 := Lib.hid e3
          clear e3
          have q0 := BX.out.c0
          have q1 := BX.out.c1
          have q2 := BX.out.c2
          have q3 := BX.out.c3
          have q4 := BX.out.c4
          have q5 := BX.out.c5
          have q6 := BX.out.c6
          have qf := BX.out.frozen 4
          have HBs := Lib.hid (HB.out.setCell (p := ⟨w.heap.size, 4, none⟩) (Nat.le_refl _) (.bool false))
          have BXs := Lib.hid (BX.out.set (j := 4) (v := .bool false) (s' := (wholeS s false)) rfl)
          clear HB BX
          have HB := HBs
          have BX := BXs
          clear HBs BXs
          go_wp2_with fail
          refine (m9_find H (FG0.out.next HB.out) (FF0.out.next HB.out) HS2.out (HG0.out.next HB.out) E3.out E4.out).mono ?_
          rintro e w4 ⟨⟨Az, cz, rfl, hrz, hnilz, hcz⟩, hb⟩
          have HBq := Lib.hid (HB.out.trans (hb.mono HB.out.size))
          clear HB
          have HB := HBq
          clear HBq
          have BXq := Lib.hid (BX.out.next hb)
          clear BX
          have BX := BXq
          clear BXq
          clear hb
          clear hrz hnilz hcz
          clear q0 q1 q2 q3 q4 q5 q6
          clear qf
          have q0 := BX.out.c0
          have q1 := BX.out.c1
          have q2 := BX.out.c2
          have q3 := BX.out.c3
          have q4 := BX.out.c4
          have q5 := BX.out.c5
          have q6 := BX.out.c6
          go_wp2
          go_ret
          exact ⟨rfl, HB.out⟩
        · clear FL FN
          clear HR1
          have dc : decide ((0 : Int) < (wholeS s false).cores) = false := decide_eq_false hc
          have dp : decide ((0 : Int) < (wholeS s false).gpus) = false := decide_eq_false hp
          have E4 : Hid (hadB g F (wholeS s false) = false) := Lib.hid (by rw [whole_had HE.out]; exact decide_eq_false (fun e => e.elim hc hp))
          obtain ⟨l4, e3⟩ : ∃ r, findL g F (wholeS s false) = r := ⟨_, rfl⟩
          have E3 := Lib.hid e3
          clear e3
          have q0 := BX.out.c0
          have q1 := BX.out.c1
          have q2 := BX.out.c2
          have q3 := BX.out.c3
          have q4 := BX.out.c4
          have q5 := BX.out.c5
          have q6 := BX.out.c6
          have qf := BX.out.frozen 4
          have HBs := Lib.hid (HB.out.setCell (p := ⟨w.heap.size, 4, none⟩) (Nat.le_refl _) (.bool false))
          have BXs := Lib.hid (BX.out.set (j := 4) (v := .bool false) (s' := (wholeS s false)) rfl)
          clear HB BX
          have HB := HBs
          have BX := BXs
          clear HBs BXs
          go_wp2_with fail
          refine (m9_find H (FG0.out.next HB.out) (FF0.out.next HB.out) HS2.out (HG0.out.next HB.out) E3.out E4.out).mono ?_
          rintro e w4 ⟨⟨Az, cz, rfl, hrz, hnilz, hcz⟩, hb⟩
          have HBq := Lib.hid (HB.out.trans (hb.mono HB.out.size))
          clear HB
          have HB := HBq
          clear HBq
          have BXq := Lib.hid (BX.out.next hb)
          clear BX
          have BX := BXq
          clear BXq
          clear hb
          clear hrz hnilz hcz
          clear q0 q1 q2 q3 q4 q5 q6
          clear qf
          have q0 := BX.out.c0
          have q1 := BX.out.c1
          have q2 := BX.out.c2
          have q3 := BX.out.c3
          have q4 := BX.out.c4
          have q5 := BX.out.c5
          have q6 := BX.out.c6
          go_wp2
          go_ret
          exact ⟨rfl, HB.out⟩

theorem matchWhole_walk (H : MatchOk) (GO : GraphOk) (A : Option Addr) (n c : Nat) (A2 : Option Addr) (n2 c2 : Nat) (g : Gr) (F : List Int) (s : Sp) (w : World) (hr : RG w w.heap.size A n g) (hnil : A = none → c = 0) (hnc : n ≤ c) (hn : n ≤ maxLen) (hr2 : RI w w.heap.size A2 n2 F) (hj2 : ∀ x ∈ F, I64 x) (hnil2 : A2 = none → c2 = 0) (hnc2 : n2 ≤ c2) (hn2 : n2 ≤ maxLen) (hs : SAsk s) (hG : Glob w) :
    Calls Try.prog 5 #[.slice A n c, .slice A2 n2 c2, .agg #[.int .i64 s.nodes, .int .i64 s.cores, .int .i64 s.gpus, .string s.tag, .bool s.whole, .int .i64 s.long, .int .i64 s.prio]] w fun e w' => e = .returned (.bool true) ∧ Below w.heap.size w w' := by
  by_cases h60 : 60 < n
  · exact matchWhole_l0 H GO A n c A2 n2 c2 s w h60 hn hG
  · by_cases h300 : 300 < n2
    · exact matchWhole_l1 H GO A n c A2 n2 c2 s w h60 h300 hn2 hG
    · cases h : hadB g F (wholeS s true) with
      | false => exact matchWhole_no H GO A n c A2 n2 c2 g F s w ⟨hr, hnil, hnc, by omega⟩ ⟨hr2, hnil2, hnc2, by omega, hj2⟩ hs h60 hG h
      | true => exact matchWhole_yes H GO A n c A2 n2 c2 g F s w ⟨hr, hnil, hnc, by omega⟩ ⟨hr2, hnil2, hnc2, by omega, hj2⟩ hs h60 hG h

end Go.Proofs.Ytglboolijhekkaa
