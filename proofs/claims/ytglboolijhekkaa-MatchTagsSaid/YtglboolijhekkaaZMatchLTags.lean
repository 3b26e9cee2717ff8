/- The statement MatchTags, as a walk over the contracts: of any graph, numbers and spec the call returns true. -/
import Derived.LoopTactic
import Derived.Test.YtglboolijhekkaaMg05
namespace Go.Proofs.Ytglboolijhekkaa
open Go.RowKit

section
variable {g : Gr} {F : List Int} {s : Sp} {x : Nat}
theorem tags_yes (hx : x < g.length) (h : suitsL g F s (x : Int) = true) : rightS s = true ∧ (s.tag.size = 0 ∨ gt g x = s.tag) ∧ suitsL g F (plainS s) (x : Int) = true := by
  rw [suitsL_is hx, Bool.and_eq_true] at h
  obtain ⟨h1, h2, h3⟩ := mayB_is h.1
  refine ⟨h3, ?_, ?_⟩
  · rcases tag_suit h.2 with e | e
    · exact .inl e
    · exact .inr e.symm
  · rw [suitsL_is hx, plain_suit h.2]
    unfold mayB
    rw [h1, h2, plain_right h3]; rfl
theorem tags_same (hx : x < g.length) (hr : rightS s = true) (h : gt g x = s.tag) : suitsL g F s (x : Int) = suitsL g F (plainS s) (x : Int) := by
  rw [suitsL_is hx, suitsL_is hx, tag_same h]
  unfold mayB
  rw [hr, plain_right hr]
end

set_option maxRecDepth 100000 in
set_option maxHeartbeats 8000000 in
theorem matchTags_l0 (H : MatchOk) (GO : GraphOk) (A : Option Addr) (n c : Nat) (A2 : Option Addr) (n2 c2 : Nat) (s : Sp) (w : World) (h60 : 60 < n) (_ : n ≤ maxLen) (hG : Glob w) :
    Calls Try.prog 4 #[.slice A n c, .slice A2 n2 c2, .agg #[.int .i64 s.nodes, .int .i64 s.cores, .int .i64 s.gpus, .string s.tag, .bool s.whole, .int .i64 s.long, .int .i64 s.prio]] w fun e w' => e = .returned (.bool true) ∧ Below w.heap.size w w' := by
  obtain ⟨W, hW⟩ : ∃ W, W = w.alloc (spO s) := ⟨_, rfl⟩
  have BX : Hid (BoxS W w.heap.size s) := Lib.hid (by rw [hW]; exact box_new w s)
  have hb0 : Below w.heap.size w W := by rw [hW]; exact (Below.refl _ _).alloc (Nat.le_refl _) _
  have HB := Lib.hid hb0
  have HG := Lib.hid (hG.next hb0)
  unfold spO at hW
  have h60d : decide ((60 : Int) < (n : Int)) = true := by simp; omega
  unfold maxLen at *
  clear hb0 hG BX
  go_enter Try.func4, Try.ntmps4
  go_wp2_with fail
  rw [← hW]
  refine (awake9_any H GO _ HG.out).mono ?_
  rintro e w1 ⟨rfl, hb⟩
  have HBq := Lib.hid (HB.out.trans (hb.mono HB.out.size))
  clear HB
  have HB := HBq
  clear HBq
  have HGq := Lib.hid (HG.out.next hb)
  clear HG
  have HG := HGq
  clear HGq
  clear hb
  go_wp2
  go_ret
  exact ⟨rfl, HB.out⟩

set_option maxRecDepth 100000 in
set_option maxHeartbeats 8000000 in
theorem matchTags_l1 (H : MatchOk) (GO : GraphOk) (A : Option Addr) (n c : Nat) (A2 : Option Addr) (n2 c2 : Nat) (s : Sp) (w : World) (h60 : ¬ 60 < n) (h300 : 300 < n2) (_ : n2 ≤ maxLen) (hG : Glob w) :
    Calls Try.prog 4 #[.slice A n c, .slice A2 n2 c2, .agg #[.int .i64 s.nodes, .int .i64 s.cores, .int .i64 s.gpus, .string s.tag, .bool s.whole, .int .i64 s.long, .int .i64 s.prio]] w fun e w' => e = .returned (.bool true) ∧ Below w.heap.size w w' := by
  obtain ⟨W, hW⟩ : ∃ W, W = w.alloc (spO s) := ⟨_, rfl⟩
  have BX : Hid (BoxS W w.heap.size s) := Lib.hid (by rw [hW]; exact box_new w s)
  have hb0 : Below w.heap.size w W := by rw [hW]; exact (Below.refl _ _).alloc (Nat.le_refl _) _
  have HB := Lib.hid hb0
  have HG := Lib.hid (hG.next hb0)
  unfold spO at hW
  have h60d : decide ((60 : Int) < (n : Int)) = false := by simp; omega
  have h300d : decide ((300 : Int) < (n2 : Int)) = true := by simp; omega
  unfold maxLen at *
  clear hb0 hG BX
  go_enter Try.func4, Try.ntmps4
  go_wp2_with fail
  rw [← hW]
  refine (awake9_any H GO _ HG.out).mono ?_
  rintro e w1 ⟨rfl, hb⟩
  have HBq := Lib.hid (HB.out.trans (hb.mono HB.out.size))
  clear HB
  have HB := HBq
  clear HBq
  have HGq := Lib.hid (HG.out.next hb)
  clear HG
  have HG := HGq
  clear HGq
  clear hb
  go_wp2
  go_ret
  exact ⟨rfl, HB.out⟩

set_option maxRecDepth 100000 in
set_option maxHeartbeats 8000000 in
theorem matchTags_no (H : MatchOk) (GO : GraphOk) (_ : SpecOk) (A : Option Addr) (n c : Nat) (A2 : Option Addr) (n2 c2 : Nat) (g : Gr) (F : List Int) (s : Sp) (w : World) (hg : GAsk w A n c g) (hf : LAsk w A2 n2 c2 F) (hs : SAsk s) (h60 : ¬ 60 < n) (hG : Glob w) (hr : rightG g = false) :
    Calls Try.prog 4 #[.slice A n c, .slice A2 n2 c2, .agg #[.int .i64 s.nodes, .int .i64 s.cores, .int .i64 s.gpus, .string s.tag, .bool s.whole, .int .i64 s.long, .int .i64 s.prio]] w fun e w' => e = .returned (.bool true) ∧ Below w.heap.size w w' := by
  obtain ⟨W, hW⟩ : ∃ W, W = w.alloc (spO s) := ⟨_, rfl⟩
  have BX : Hid (BoxS W w.heap.size s) := Lib.hid (by rw [hW]; exact box_new w s)
  have hb0 : Below w.heap.size w W := by rw [hW]; exact (Below.refl _ _).alloc (Nat.le_refl _) _
  have HB := Lib.hid hb0
  have HG := Lib.hid (hG.next hb0)
  have FG := Lib.hid (hg.next hb0)
  have FF := Lib.hid (hf.next hb0)
  have HS := Lib.hid hs
  have h60d : decide ((60 : Int) < (n : Int)) = false := by simp; omega
  have h300d : decide ((300 : Int) < (n2 : Int)) = false := by have := hf.few; simp; omega
  have HR := Lib.hid hr
  unfold spO at hW
  clear hb0 hg hf hs hG h60 hr
  go_enter Try.func4, Try.ntmps4
  go_wp2_with fail
  rw [← hW]
  refine (awake9_any H GO _ HG.out).mono ?_
  rintro e w1 ⟨rfl, hb⟩
  have HBq := Lib.hid (HB.out.trans (hb.mono HB.out.size))
  clear HB
  have HB := HBq
  clear HBq
  have HGq := Lib.hid (HG.out.next hb)
  clear HG
  have HG := HGq
  clear HGq
  have FGq := Lib.hid (FG.out.next hb)
  clear FG
  have FG := FGq
  clear FGq
  clear hb
  clear hW
  go_wp2_with fail
  refine (calls_bool (GO.right _ _ _ _ _ FG.out HG.out) HR.out).mono ?_
  rintro e w2 ⟨rfl, hb⟩
  have HBq := Lib.hid (HB.out.trans (hb.mono HB.out.size))
  clear HB
  have HB := HBq
  clear HBq
  have HGq := Lib.hid (HG.out.next hb)
  clear HG
  have HG := HGq
  clear HGq
  have FGq := Lib.hid (FG.out.next hb)
  clear FG
  have FG := FGq
  clear FGq
  clear hb
  go_wp2
  go_ret
  exact ⟨rfl, HB.out⟩

set_option maxRecDepth 100000 in
set_option maxHeartbeats 8000000 in
theorem matchTags_yes (H : MatchOk) (GO : GraphOk) (HSP : SpecOk) (A : Option Addr) (n c : Nat) (A2 : Option Addr) (n2 c2 : Nat) (g : Gr) (F : List Int) (s : Sp) (w : World) (hg : GAsk w A n c g) (hf : LAsk w A2 n2 c2 F) (hs : SAsk s) (h60 : ¬ 60 < n) (hG : Glob w) (hr : rightG g = true) :
    Calls Try.prog 4 #[.slice A n c, .slice A2 n2 c2, .agg #[.int .i64 s.nodes, .int .i64 s.cores, .int .i64 s.gpus, .string s.tag, .bool s.whole, .int .i64 s.long, .int .i64 s.prio]] w fun e w' => e = .returned (.bool true) ∧ Below w.heap.size w w' := by
  obtain ⟨W, hW⟩ : ∃ W, W = w.alloc (spO s) := ⟨_, rfl⟩
  have BX : Hid (BoxS W w.heap.size s) := Lib.hid (by rw [hW]; exact box_new w s)
  have hb0 : Below w.heap.size w W := by rw [hW]; exact (Below.refl _ _).alloc (Nat.le_refl _) _
  have HB := Lib.hid hb0
  have HG := Lib.hid (hG.next hb0)
  have FG := Lib.hid (hg.next hb0)
  have FF := Lib.hid (hf.next hb0)
  have HS := Lib.hid hs
  have h60d : decide ((60 : Int) < (n : Int)) = false := by simp; omega
  have h300d : decide ((300 : Int) < (n2 : Int)) = false := by have := hf.few; simp; omega
  have HR := Lib.hid hr
  have HPS := Lib.hid (plain_ask hs)
  have hll := nodesL_len (g := g)
  have hli := nodesL_i64 (g := g)
  obtain ⟨L, hL⟩ : ∃ L, nodesL g = L := ⟨_, rfl⟩
  rw [hL] at hll hli
  have HL := Lib.hid hL
  have HLI := Lib.hid hli
  unfold spO at hW
  clear hb0 hg hf hs hG h60 hr hL hli
  go_enter Try.func4, Try.ntmps4
  go_wp2_with fail
  rw [← hW]
  refine (awake9_any H GO _ HG.out).mono ?_
  rintro e w1 ⟨rfl, hb⟩
  have HBq := Lib.hid (HB.out.trans (hb.mono HB.out.size))
  clear HB
  have HB := HBq
  clear HBq
  have HGq := Lib.hid (HG.out.next hb)
  clear HG
  have HG := HGq
  clear HGq
  have FGq := Lib.hid (FG.out.next hb)
  clear FG
  have FG := FGq
  clear FGq
  have FFq := Lib.hid (FF.out.next hb)
  clear FF
  have FF := FFq
  clear FFq
  have BXq := Lib.hid (BX.out.next hb)
  clear BX
  have BX := BXq
  clear BXq
  clear hb
  clear hW
  go_wp2_with fail
  refine (calls_bool (GO.right _ _ _ _ _ FG.out HG.out) HR.out).mono ?_
  rintro e w2 ⟨rfl, hb⟩
  have HBq := Lib.hid (HB.out.trans (hb.mono HB.out.size))
  clear HB
  have HB := HBq
  clear HBq
  have HGq := Lib.hid (HG.out.next hb)
  clear HG
  have HG := HGq
  clear HGq
  have FGq := Lib.hid (FG.out.next hb)
  clear FG
  have FG := FGq
  clear FGq
  have FFq := Lib.hid (FF.out.next hb)
  clear FF
  have FF := FFq
  clear FFq
  have BXq := Lib.hid (BX.out.next hb)
  clear BX
  have BX := BXq
  clear BXq
  clear hb
  have q0 := BX.out.c0
  have q1 := BX.out.c1
  have q2 := BX.out.c2
  have q3 := BX.out.c3
  have q4 := BX.out.c4
  have q5 := BX.out.c5
  have q6 := BX.out.c6
  go_wp2_with fail
  have hb := Below.alloc (Below.refl w2.heap.size w2) (Nat.le_refl _) (.cells #[.int .i64 s.nodes, .int .i64 s.cores, .int .i64 s.gpus, .string ⟨#[]⟩, .bool s.whole, .int .i64 s.long, .int .i64 s.prio] 25)
  have BPq := Lib.hid (box_new w2 (plainS s))
  have HBq := Lib.hid (HB.out.trans (hb.mono HB.out.size))
  clear HB
  have HB := HBq
  clear HBq
  have HGq := Lib.hid (HG.out.next hb)
  clear HG
  have HG := HGq
  clear HGq
  have FGq := Lib.hid (FG.out.next hb)
  clear FG
  have FG := FGq
  clear FGq
  have FFq := Lib.hid (FF.out.next hb)
  clear FF
  have FF := FFq
  clear FFq
  have BXq := Lib.hid (BX.out.next hb)
  clear BX
  have BX := BXq
  clear BXq
  clear hb
  have BP := BPq
  clear BPq
  clear q0 q1 q2 q3 q4 q5 q6
  go_wp2_with fail
  refine (calls_ipost (GO.nodes _ _ _ _ _ FG.out HG.out) HL.out).mono ?_
  rintro e w3 ⟨⟨A3, c3, rfl, hr3, hnil3, hc3⟩, hb⟩
  have HBq := Lib.hid (HB.out.trans (hb.mono HB.out.size))
  clear HB
  have HB := HBq
  clear HBq
  have HGq := Lib.hid (HG.out.next hb)
  clear HG
  have HG := HGq
  clear HGq
  have FGq := Lib.hid (FG.out.next hb)
  clear FG
  have FG := FGq
  clear FGq
  have FFq := Lib.hid (FF.out.next hb)
  clear FF
  have FF := FFq
  clear FFq
  have BXq := Lib.hid (BX.out.next hb)
  clear BX
  have BX := BXq
  clear BXq
  have BPq := Lib.hid (BP.out.next hb)
  clear BP
  have BP := BPq
  clear BPq
  clear hb
  have FL := Lib.hid (LAsk.mk hr3 hnil3 hc3 (by omega) HLI.out)
  clear hr3 hnil3 hc3
  go_wp2
  go_loopw [9] (fun i wr => ∃ k : Nat, k ≤ L.length ∧ i = .int .i64 k ∧ Below w3.heap.size w3 wr) (fun i _ => L.length - (intOf i).toNat)
  case atStart => exact ⟨0, Nat.zero_le _, rfl, Below.refl _ _⟩
  case round =>
    obtain ⟨k, hk, rfl, hrel⟩ := hrel
    have HR0 := Lib.hid hrel
    have hb := hrel
    clear hrel
    have HBq := Lib.hid (HB.out.trans (hb.mono HB.out.size))
    clear HB
    have HB := HBq
    clear HBq
    have HGq := Lib.hid (HG.out.next hb)
    clear HG
    have HG := HGq
    clear HGq
    have FGq := Lib.hid (FG.out.next hb)
    clear FG
    have FG := FGq
    clear FGq
    have FFq := Lib.hid (FF.out.next hb)
    clear FF
    have FF := FFq
    clear FFq
    have BXq := Lib.hid (BX.out.next hb)
    clear BX
    have BX := BXq
    clear BXq
    have BPq := Lib.hid (BP.out.next hb)
    clear BP
    have BP := BPq
    clear BPq
    have FLq := Lib.hid (FL.out.next hb)
    clear FL
    have FL := FLq
    clear FLq
    clear hb
    have HR1 := Lib.hid HR0.out
    clear HR0
    by_cases hlt : k < L.length
    · obtain ⟨x, hx1, hx2, _, _, _⟩ := node_facts HR.out (by rw [HL.out]; exact hlt)
      rw [HL.out] at hx1
      have hxn : x < n := by have := FG.out.reads.len; omega
      have HXI : Hid (I64 (x : Int)) := Lib.hid (i64_small (by have := FG.out.few; omega))
      obtain ⟨tx, htx⟩ : ∃ t, t = gt g x := ⟨_, rfl⟩
      obtain ⟨bl, ol, rfl, hcl⟩ := cell_list FL.out.reads hlt hx1
      obtain ⟨bg, og, rfl, hct⟩ := cell_tag FG.out.reads hxn htx.symm
      have CL := Lib.hid hcl
      have CT := Lib.hid hct
      obtain ⟨v, e1⟩ : ∃ v, suitsL g F s (x : Int) = v := ⟨_, rfl⟩
      have hyes := tags_yes (F := F) (s := s) hx2
      have hsame := tags_same (F := F) (s := s) hx2
      rw [← htx] at hyes hsame
      obtain ⟨p, e2⟩ : ∃ v, suitsL g F (plainS s) (x : Int) = v := ⟨_, rfl⟩
      rw [e1, e2] at hyes hsame
      have E1 := Lib.hid e1
      have E2 := Lib.hid e2
      have hxg : x < n := hxn
      have hk2 : k < L.length := hlt
      clear hcl hct hx1 hx2 e1 e2
      cases hrs : rightS s with
      | false =>
        have RS := Lib.hid hrs
        have hv : v = false := by
          cases v with
          | false => rfl
          | true => have := (hyes rfl).1; rw [hrs] at this; cases this
        subst hv
        clear hyes hsame hrs htx
        go_wp2
        have zc0 : ∀ p : Later wr, p.now.cell? ⟨w.heap.size, 0, none⟩ = some (.int .i64 s.nodes) := fun _ => Later.cell BX.out.lt BX.out.c0
        have zc1 : ∀ p : Later wr, p.now.cell? ⟨w.heap.size, 1, none⟩ = some (.int .i64 s.cores) := fun _ => Later.cell BX.out.lt BX.out.c1
        have zc2 : ∀ p : Later wr, p.now.cell? ⟨w.heap.size, 2, none⟩ = some (.int .i64 s.gpus) := fun _ => Later.cell BX.out.lt BX.out.c2
        have zc3 : ∀ p : Later wr, p.now.cell? ⟨w.heap.size, 3, none⟩ = some (.string s.tag) := fun _ => Later.cell BX.out.lt BX.out.c3
        have zc4 : ∀ p : Later wr, p.now.cell? ⟨w.heap.size, 4, none⟩ = some (.bool s.whole) := fun _ => Later.cell BX.out.lt BX.out.c4
        have zc5 : ∀ p : Later wr, p.now.cell? ⟨w.heap.size, 5, none⟩ = some (.int .i64 s.long) := fun _ => Later.cell BX.out.lt BX.out.c5
        have zc6 : ∀ p : Later wr, p.now.cell? ⟨w.heap.size, 6, none⟩ = some (.int .i64 s.prio) := fun _ => Later.cell BX.out.lt BX.out.c6
        have zc7 : ∀ p : Later wr, p.now.cell? ⟨bl, ol + k, none⟩ = some (.int .i64 (x : Int)) := fun _ => Later.cell CL.out.lt CL.out.at'
        refine wp_region_later (by kernel_rfl) (by kernel_rfl) ?_
        repeat (first | go_big_quiet_skip | (go_big_quiet_want; go_big_quiet_op; first | go_big_quiet_on | (apply Exists.intro; refine ⟨fun pz => ?_, ?_⟩; (first | (go_at_call 10; exact Calls.later_of (m9_suits H (FG.out.next pz.bel) (FF.out.next pz.bel) HS.out (HG.out.next pz.bel) HXI.out E1.out)) | fail); go_big_quiet_on)))
        refine wpQuiet_nil ?_
        intro _ hw'
        obtain ⟨pz, rfl⟩ := hw'
        obtain ⟨w4, hb⟩ := pz
        try dsimp only
        clear zc0 zc1 zc2 zc3 zc4 zc5 zc6 zc7
        have HBq := Lib.hid (HB.out.trans (hb.mono HB.out.size))
        clear HB
        have HB := HBq
        clear HBq
        have HR1q := Lib.hid (HR1.out.trans (hb.mono HR1.out.size))
        clear HR1
        have HR1 := HR1q
        clear HR1q
        have HGq := Lib.hid (HG.out.next hb)
        clear HG
        have HG := HGq
        clear HGq
        have FGq := Lib.hid (FG.out.next hb)
        clear FG
        have FG := FGq
        clear FGq
        have FFq := Lib.hid (FF.out.next hb)
        clear FF
        have FF := FFq
        clear FFq
        have BXq := Lib.hid (BX.out.next hb)
        clear BX
        have BX := BXq
        clear BXq
        have BPq := Lib.hid (BP.out.next hb)
        clear BP
        have BP := BPq
        clear BPq
        have FLq := Lib.hid (FL.out.next hb)
        clear FL
        have FL := FLq
        clear FLq
        have CLq := Lib.hid (CL.out.next hb)
        clear CL
        have CL := CLq
        clear CLq
        have CTq := Lib.hid (CT.out.next hb)
        clear CT
        have CT := CTq
        clear CTq
        clear hb
        go_wp2
        have zc0 : ∀ p : Later w4, p.now.cell? ⟨w.heap.size, 0, none⟩ = some (.int .i64 s.nodes) := fun _ => Later.cell BX.out.lt BX.out.c0
        have zc1 : ∀ p : Later w4, p.now.cell? ⟨w.heap.size, 1, none⟩ = some (.int .i64 s.cores) := fun _ => Later.cell BX.out.lt BX.out.c1
        have zc2 : ∀ p : Later w4, p.now.cell? ⟨w.heap.size, 2, none⟩ = some (.int .i64 s.gpus) := fun _ => Later.cell BX.out.lt BX.out.c2
        have zc3 : ∀ p : Later w4, p.now.cell? ⟨w.heap.size, 3, none⟩ = some (.string s.tag) := fun _ => Later.cell BX.out.lt BX.out.c3
        have zc4 : ∀ p : Later w4, p.now.cell? ⟨w.heap.size, 4, none⟩ = some (.bool s.whole) := fun _ => Later.cell BX.out.lt BX.out.c4
        have zc5 : ∀ p : Later w4, p.now.cell? ⟨w.heap.size, 5, none⟩ = some (.int .i64 s.long) := fun _ => Later.cell BX.out.lt BX.out.c5
        have zc6 : ∀ p : Later w4, p.now.cell? ⟨w.heap.size, 6, none⟩ = some (.int .i64 s.prio) := fun _ => Later.cell BX.out.lt BX.out.c6
        have zc7 : ∀ p : Later w4, p.now.cell? ⟨w2.heap.size, 0, none⟩ = some (.int .i64 (plainS s).nodes) := fun _ => Later.cell BP.out.lt BP.out.c0
        have zc8 : ∀ p : Later w4, p.now.cell? ⟨w2.heap.size, 1, none⟩ = some (.int .i64 (plainS s).cores) := fun _ => Later.cell BP.out.lt BP.out.c1
        have zc9 : ∀ p : Later w4, p.now.cell? ⟨w2.heap.size, 2, none⟩ = some (.int .i64 (plainS s).gpus) := fun _ => Later.cell BP.out.lt BP.out.c2
        have zc10 : ∀ p : Later w4, p.now.cell? ⟨w2.heap.size, 3, none⟩ = some (.string (plainS s).tag) := fun _ => Later.cell BP.out.lt BP.out.c3
        have zc11 : ∀ p : Later w4, p.now.cell? ⟨w2.heap.size, 4, none⟩ = some (.bool (plainS s).whole) := fun _ => Later.cell BP.out.lt BP.out.c4
        have zc12 : ∀ p : Later w4, p.now.cell? ⟨w2.heap.size, 5, none⟩ = some (.int .i64 (plainS s).long) := fun _ => Later.cell BP.out.lt BP.out.c5
        have zc13 : ∀ p : Later w4, p.now.cell? ⟨w2.heap.size, 6, none⟩ = some (.int .i64 (plainS s).prio) := fun _ => Later.cell BP.out.lt BP.out.c6
        have zc14 : ∀ p : Later w4, p.now.cell? ⟨bl, ol + k, none⟩ = some (.int .i64 (x : Int)) := fun _ => Later.cell CL.out.lt CL.out.at'
        have zc15 : ∀ p : Later w4, p.now.cell? ⟨bg, og + x * 3 + 2, none⟩ = some (.string tx) := fun _ => Later.cell CT.out.lt CT.out.at'
        refine wp_region_later (by kernel_rfl) (by kernel_rfl) ?_
        repeat (first | go_big_quiet_skip | (go_big_quiet_want; go_big_quiet_op; first | go_big_quiet_on | (apply Exists.intro; refine ⟨fun pz => ?_, ?_⟩; (first | (go_at_call 18; exact Calls.later_of (s7_right HSP HS.out (HG.out.next pz.bel) RS.out)) | fail); go_big_quiet_on)))
        refine wpQuiet_nil ?_
        intro _ hw'
        obtain ⟨pz, rfl⟩ := hw'
        obtain ⟨w5, hb⟩ := pz
        try dsimp only
        clear zc0 zc1 zc2 zc3 zc4 zc5 zc6 zc7 zc8 zc9 zc10 zc11 zc12 zc13 zc14 zc15
        have HBq := Lib.hid (HB.out.trans (hb.mono HB.out.size))
        clear HB
        have HB := HBq
        clear HBq
        have HR1q := Lib.hid (HR1.out.trans (hb.mono HR1.out.size))
        clear HR1
        have HR1 := HR1q
        clear HR1q
        have HGq := Lib.hid (HG.out.next hb)
        clear HG
        have HG := HGq
        clear HGq
        have FGq := Lib.hid (FG.out.next hb)
        clear FG
        have FG := FGq
        clear FGq
        have FFq := Lib.hid (FF.out.next hb)
        clear FF
        have FF := FFq
        clear FFq
        have BXq := Lib.hid (BX.out.next hb)
        clear BX
        have BX := BXq
        clear BXq
        have BPq := Lib.hid (BP.out.next hb)
        clear BP
        have BP := BPq
        clear BPq
        have FLq := Lib.hid (FL.out.next hb)
        clear FL
        have FL := FLq
        clear FLq
        have CLq := Lib.hid (CL.out.next hb)
        clear CL
        have CL := CLq
        clear CLq
        have CTq := Lib.hid (CT.out.next hb)
        clear CT
        have CT := CTq
        clear CTq
        clear hb
        go_wp2
        have zc0 : ∀ p : Later w5, p.now.cell? ⟨w.heap.size, 0, none⟩ = some (.int .i64 s.nodes) := fun _ => Later.cell BX.out.lt BX.out.c0
        have zc1 : ∀ p : Later w5, p.now.cell? ⟨w.heap.size, 1, none⟩ = some (.int .i64 s.cores) := fun _ => Later.cell BX.out.lt BX.out.c1
        have zc2 : ∀ p : Later w5, p.now.cell? ⟨w.heap.size, 2, none⟩ = some (.int .i64 s.gpus) := fun _ => Later.cell BX.out.lt BX.out.c2
        have zc3 : ∀ p : Later w5, p.now.cell? ⟨w.heap.size, 3, none⟩ = some (.string s.tag) := fun _ => Later.cell BX.out.lt BX.out.c3
        have zc4 : ∀ p : Later w5, p.now.cell? ⟨w.heap.size, 4, none⟩ = some (.bool s.whole) := fun _ => Later.cell BX.out.lt BX.out.c4
        have zc5 : ∀ p : Later w5, p.now.cell? ⟨w.heap.size, 5, none⟩ = some (.int .i64 s.long) := fun _ => Later.cell BX.out.lt BX.out.c5
        have zc6 : ∀ p : Later w5, p.now.cell? ⟨w.heap.size, 6, none⟩ = some (.int .i64 s.prio) := fun _ => Later.cell BX.out.lt BX.out.c6
        have zc7 : ∀ p : Later w5, p.now.cell? ⟨w2.heap.size, 0, none⟩ = some (.int .i64 (plainS s).nodes) := fun _ => Later.cell BP.out.lt BP.out.c0
        have zc8 : ∀ p : Later w5, p.now.cell? ⟨w2.heap.size, 1, none⟩ = some (.int .i64 (plainS s).cores) := fun _ => Later.cell BP.out.lt BP.out.c1
        have zc9 : ∀ p : Later w5, p.now.cell? ⟨w2.heap.size, 2, none⟩ = some (.int .i64 (plainS s).gpus) := fun _ => Later.cell BP.out.lt BP.out.c2
        have zc10 : ∀ p : Later w5, p.now.cell? ⟨w2.heap.size, 3, none⟩ = some (.string (plainS s).tag) := fun _ => Later.cell BP.out.lt BP.out.c3
        have zc11 : ∀ p : Later w5, p.now.cell? ⟨w2.heap.size, 4, none⟩ = some (.bool (plainS s).whole) := fun _ => Later.cell BP.out.lt BP.out.c4
        have zc12 : ∀ p : Later w5, p.now.cell? ⟨w2.heap.size, 5, none⟩ = some (.int .i64 (plainS s).long) := fun _ => Later.cell BP.out.lt BP.out.c5
        have zc13 : ∀ p : Later w5, p.now.cell? ⟨w2.heap.size, 6, none⟩ = some (.int .i64 (plainS s).prio) := fun _ => Later.cell BP.out.lt BP.out.c6
        have zc14 : ∀ p : Later w5, p.now.cell? ⟨bl, ol + k, none⟩ = some (.int .i64 (x : Int)) := fun _ => Later.cell CL.out.lt CL.out.at'
        have zc15 : ∀ p : Later w5, p.now.cell? ⟨bg, og + x * 3 + 2, none⟩ = some (.string tx) := fun _ => Later.cell CT.out.lt CT.out.at'
        refine wp_region_later (by kernel_rfl) (by kernel_rfl) ?_
        repeat (first | go_big_quiet_skip | (go_big_quiet_want; go_big_quiet_op; first | go_big_quiet_on | (apply Exists.intro; refine ⟨fun pz => ?_, ?_⟩; (first | (go_at_call 18; exact Calls.later_of (s7_right HSP HS.out (HG.out.next pz.bel) RS.out)) | fail); go_big_quiet_on)))
        refine wpQuiet_nil ?_
        intro _ hw'
        obtain ⟨pz, rfl⟩ := hw'
        obtain ⟨w6, hb⟩ := pz
        try dsimp only
        clear zc0 zc1 zc2 zc3 zc4 zc5 zc6 zc7 zc8 zc9 zc10 zc11 zc12 zc13 zc14 zc15
        have HBq := Lib.hid (HB.out.trans (hb.mono HB.out.size))
        clear HB
        have HB := HBq
        clear HBq
        have HR1q := Lib.hid (HR1.out.trans (hb.mono HR1.out.size))
        clear HR1
        have HR1 := HR1q
        clear HR1q
        have HGq := Lib.hid (HG.out.next hb)
        clear HG
        have HG := HGq
        clear HGq
        have FGq := Lib.hid (FG.out.next hb)
        clear FG
        have FG := FGq
        clear FGq
        have FFq := Lib.hid (FF.out.next hb)
        clear FF
        have FF := FFq
        clear FFq
        have BXq := Lib.hid (BX.out.next hb)
        clear BX
        have BX := BXq
        clear BXq
        have BPq := Lib.hid (BP.out.next hb)
        clear BP
        have BP := BPq
        clear BPq
        have FLq := Lib.hid (FL.out.next hb)
        clear FL
        have FL := FLq
        clear FLq
        have CLq := Lib.hid (CL.out.next hb)
        clear CL
        have CL := CLq
        clear CLq
        have CTq := Lib.hid (CT.out.next hb)
        clear CT
        have CT := CTq
        clear CTq
        clear hb
        go_wp2
        go_roundw
        case rel => exact ⟨k + 1, by omega, by go_num, HR1.out⟩
        case measure => simp [intOf]; omega
      | true =>
        have RS := Lib.hid hrs
        by_cases hte : tx = s.tag
        · have hpe := hsame hrs hte
          subst hpe
          have HTE := Lib.hid hte
          rw [hte] at CT
          clear hte htx
          cases v with
          | false =>
            clear hyes hsame hrs
            go_wp2
            have zc0 : ∀ p : Later wr, p.now.cell? ⟨w.heap.size, 0, none⟩ = some (.int .i64 s.nodes) := fun _ => Later.cell BX.out.lt BX.out.c0
            have zc1 : ∀ p : Later wr, p.now.cell? ⟨w.heap.size, 1, none⟩ = some (.int .i64 s.cores) := fun _ => Later.cell BX.out.lt BX.out.c1
            have zc2 : ∀ p : Later wr, p.now.cell? ⟨w.heap.size, 2, none⟩ = some (.int .i64 s.gpus) := fun _ => Later.cell BX.out.lt BX.out.c2
            have zc3 : ∀ p : Later wr, p.now.cell? ⟨w.heap.size, 3, none⟩ = some (.string s.tag) := fun _ => Later.cell BX.out.lt BX.out.c3
            have zc4 : ∀ p : Later wr, p.now.cell? ⟨w.heap.size, 4, none⟩ = some (.bool s.whole) := fun _ => Later.cell BX.out.lt BX.out.c4
            have zc5 : ∀ p : Later wr, p.now.cell? ⟨w.heap.size, 5, none⟩ = some (.int .i64 s.long) := fun _ => Later.cell BX.out.lt BX.out.c5
            have zc6 : ∀ p : Later wr, p.now.cell? ⟨w.heap.size, 6, none⟩ = some (.int .i64 s.prio) := fun _ => Later.cell BX.out.lt BX.out.c6
            have zc7 : ∀ p : Later wr, p.now.cell? ⟨bl, ol + k, none⟩ = some (.int .i64 (x : Int)) := fun _ => Later.cell CL.out.lt CL.out.at'
            refine wp_region_later (by kernel_rfl) (by kernel_rfl) ?_
            repeat (first | go_big_quiet_skip | (go_big_quiet_want; go_big_quiet_op; first | go_big_quiet_on | (apply Exists.intro; refine ⟨fun pz => ?_, ?_⟩; (first | (go_at_call 10; exact Calls.later_of (m9_suits H (FG.out.next pz.bel) (FF.out.next pz.bel) HS.out (HG.out.next pz.bel) HXI.out E1.out)) | fail); go_big_quiet_on)))
            refine wpQuiet_nil ?_
            intro _ hw'
            obtain ⟨pz, rfl⟩ := hw'
            obtain ⟨w4, hb⟩ := pz
            try dsimp only
            clear zc0 zc1 zc2 zc3 zc4 zc5 zc6 zc7
            have HBq := Lib.hid (HB.out.trans (hb.mono HB.out.size))
            clear HB
            have HB := HBq
            clear HBq
            have HR1q := Lib.hid (HR1.out.trans (hb.mono HR1.out.size))
            clear HR1
            have HR1 := HR1q
            clear HR1q
            have HGq := Lib.hid (HG.out.next hb)
            clear HG
            have HG := HGq
            clear HGq
            have FGq := Lib.hid (FG.out.next hb)
            clear FG
            have FG := FGq
            clear FGq
            have FFq := Lib.hid (FF.out.next hb)
            clear FF
            have FF := FFq
            clear FFq
            have BXq := Lib.hid (BX.out.next hb)
            clear BX
            have BX := BXq
            clear BXq
            have BPq := Lib.hid (BP.out.next hb)
            clear BP
            have BP := BPq
            clear BPq
            have FLq := Lib.hid (FL.out.next hb)
            clear FL
            have FL := FLq
            clear FLq
            have CLq := Lib.hid (CL.out.next hb)
            clear CL
            have CL := CLq
            clear CLq
            have CTq := Lib.hid (CT.out.next hb)
            clear CT
            have CT := CTq
            clear CTq
            clear hb
            go_wp2
            have zc0 : ∀ p : Later w4, p.now.cell? ⟨w.heap.size, 0, none⟩ = some (.int .i64 s.nodes) := fun _ => Later.cell BX.out.lt BX.out.c0
            have zc1 : ∀ p : Later w4, p.now.cell? ⟨w.heap.size, 1, none⟩ = some (.int .i64 s.cores) := fun _ => Later.cell BX.out.lt BX.out.c1
            have zc2 : ∀ p : Later w4, p.now.cell? ⟨w.heap.size, 2, none⟩ = some (.int .i64 s.gpus) := fun _ => Later.cell BX.out.lt BX.out.c2
            have zc3 : ∀ p : Later w4, p.now.cell? ⟨w.heap.size, 3, none⟩ = some (.string s.tag) := fun _ => Later.cell BX.out.lt BX.out.c3
            have zc4 : ∀ p : Later w4, p.now.cell? ⟨w.heap.size, 4, none⟩ = some (.bool s.whole) := fun _ => Later.cell BX.out.lt BX.out.c4
            have zc5 : ∀ p : Later w4, p.now.cell? ⟨w.heap.size, 5, none⟩ = some (.int .i64 s.long) := fun _ => Later.cell BX.out.lt BX.out.c5
            have zc6 : ∀ p : Later w4, p.now.cell? ⟨w.heap.size, 6, none⟩ = some (.int .i64 s.prio) := fun _ => Later.cell BX.out.lt BX.out.c6
            have zc7 : ∀ p : Later w4, p.now.cell? ⟨w2.heap.size, 0, none⟩ = some (.int .i64 (plainS s).nodes) := fun _ => Later.cell BP.out.lt BP.out.c0
            have zc8 : ∀ p : Later w4, p.now.cell? ⟨w2.heap.size, 1, none⟩ = some (.int .i64 (plainS s).cores) := fun _ => Later.cell BP.out.lt BP.out.c1
            have zc9 : ∀ p : Later w4, p.now.cell? ⟨w2.heap.size, 2, none⟩ = some (.int .i64 (plainS s).gpus) := fun _ => Later.cell BP.out.lt BP.out.c2
            have zc10 : ∀ p : Later w4, p.now.cell? ⟨w2.heap.size, 3, none⟩ = some (.string (plainS s).tag) := fun _ => Later.cell BP.out.lt BP.out.c3
            have zc11 : ∀ p : Later w4, p.now.cell? ⟨w2.heap.size, 4, none⟩ = some (.bool (plainS s).whole) := fun _ => Later.cell BP.out.lt BP.out.c4
            have zc12 : ∀ p : Later w4, p.now.cell? ⟨w2.heap.size, 5, none⟩ = some (.int .i64 (plainS s).long) := fun _ => Later.cell BP.out.lt BP.out.c5
            have zc13 : ∀ p : Later w4, p.now.cell? ⟨w2.heap.size, 6, none⟩ = some (.int .i64 (plainS s).prio) := fun _ => Later.cell BP.out.lt BP.out.c6
            have zc14 : ∀ p : Later w4, p.now.cell? ⟨bl, ol + k, none⟩ = some (.int .i64 (x : Int)) := fun _ => Later.cell CL.out.lt CL.out.at'
            have zc15 : ∀ p : Later w4, p.now.cell? ⟨bg, og + x * 3 + 2, none⟩ = some (.string s.tag) := fun _ => Later.cell CT.out.lt CT.out.at'
            refine wp_region_later (by kernel_rfl) (by kernel_rfl) ?_
            repeat (first | go_big_quiet_skip | (go_big_quiet_want; go_big_quiet_op; first | go_big_quiet_on | (apply Exists.intro; refine ⟨fun pz => ?_, ?_⟩; (first | (go_at_call 18; exact Calls.later_of (s7_right HSP HS.out (HG.out.next pz.bel) RS.out)) | fail); go_big_quiet_on)))
            refine wpQuiet_nil ?_
            intro _ hw'
            obtain ⟨pz, rfl⟩ := hw'
            obtain ⟨w5, hb⟩ := pz
            try dsimp only
            clear zc0 zc1 zc2 zc3 zc4 zc5 zc6 zc7 zc8 zc9 zc10 zc11 zc12 zc13 zc14 zc15
            have HBq := Lib.hid (HB.out.trans (hb.mono HB.out.size))
            clear HB
            have HB := HBq
            clear HBq
            have HR1q := Lib.hid (HR1.out.trans (hb.mono HR1.out.size))
            clear HR1
            have HR1 := HR1q
            clear HR1q
            have HGq := Lib.hid (HG.out.next hb)
            clear HG
            have HG := HGq
            clear HGq
            have FGq := Lib.hid (FG.out.next hb)
            clear FG
            have FG := FGq
            clear FGq
            have FFq := Lib.hid (FF.out.next hb)
            clear FF
            have FF := FFq
            clear FFq
            have BXq := Lib.hid (BX.out.next hb)
            clear BX
            have BX := BXq
            clear BXq
            have BPq := Lib.hid (BP.out.next hb)
            clear BP
            have BP := BPq
            clear BPq
            have FLq := Lib.hid (FL.out.next hb)
            clear FL
            have FL := FLq
            clear FLq
            have CLq := Lib.hid (CL.out.next hb)
            clear CL
            have CL := CLq
            clear CLq
            have CTq := Lib.hid (CT.out.next hb)
            clear CT
            have CT := CTq
            clear CTq
            clear hb
            go_wp2
            have zc0 : ∀ p : Later w5, p.now.cell? ⟨w.heap.size, 0, none⟩ = some (.int .i64 s.nodes) := fun _ => Later.cell BX.out.lt BX.out.c0
            have zc1 : ∀ p : Later w5, p.now.cell? ⟨w.heap.size, 1, none⟩ = some (.int .i64 s.cores) := fun _ => Later.cell BX.out.lt BX.out.c1
            have zc2 : ∀ p : Later w5, p.now.cell? ⟨w.heap.size, 2, none⟩ = some (.int .i64 s.gpus) := fun _ => Later.cell BX.out.lt BX.out.c2
            have zc3 : ∀ p : Later w5, p.now.cell? ⟨w.heap.size, 3, none⟩ = some (.string s.tag) := fun _ => Later.cell BX.out.lt BX.out.c3
            have zc4 : ∀ p : Later w5, p.now.cell? ⟨w.heap.size, 4, none⟩ = some (.bool s.whole) := fun _ => Later.cell BX.out.lt BX.out.c4
            have zc5 : ∀ p : Later w5, p.now.cell? ⟨w.heap.size, 5, none⟩ = some (.int .i64 s.long) := fun _ => Later.cell BX.out.lt BX.out.c5
            have zc6 : ∀ p : Later w5, p.now.cell? ⟨w.heap.size, 6, none⟩ = some (.int .i64 s.prio) := fun _ => Later.cell BX.out.lt BX.out.c6
            have zc7 : ∀ p : Later w5, p.now.cell? ⟨w2.heap.size, 0, none⟩ = some (.int .i64 (plainS s).nodes) := fun _ => Later.cell BP.out.lt BP.out.c0
            have zc8 : ∀ p : Later w5, p.now.cell? ⟨w2.heap.size, 1, none⟩ = some (.int .i64 (plainS s).cores) := fun _ => Later.cell BP.out.lt BP.out.c1
            have zc9 : ∀ p : Later w5, p.now.cell? ⟨w2.heap.size, 2, none⟩ = some (.int .i64 (plainS s).gpus) := fun _ => Later.cell BP.out.lt BP.out.c2
            have zc10 : ∀ p : Later w5, p.now.cell? ⟨w2.heap.size, 3, none⟩ = some (.string (plainS s).tag) := fun _ => Later.cell BP.out.lt BP.out.c3
            have zc11 : ∀ p : Later w5, p.now.cell? ⟨w2.heap.size, 4, none⟩ = some (.bool (plainS s).whole) := fun _ => Later.cell BP.out.lt BP.out.c4
            have zc12 : ∀ p : Later w5, p.now.cell? ⟨w2.heap.size, 5, none⟩ = some (.int .i64 (plainS s).long) := fun _ => Later.cell BP.out.lt BP.out.c5
            have zc13 : ∀ p : Later w5, p.now.cell? ⟨w2.heap.size, 6, none⟩ = some (.int .i64 (plainS s).prio) := fun _ => Later.cell BP.out.lt BP.out.c6
            have zc14 : ∀ p : Later w5, p.now.cell? ⟨bl, ol + k, none⟩ = some (.int .i64 (x : Int)) := fun _ => Later.cell CL.out.lt CL.out.at'
            have zc15 : ∀ p : Later w5, p.now.cell? ⟨bg, og + x * 3 + 2, none⟩ = some (.string s.tag) := fun _ => Later.cell CT.out.lt CT.out.at'
            refine wp_region_later (by kernel_rfl) (by kernel_rfl) ?_
            repeat (first | go_big_quiet_skip | (go_big_quiet_want; go_big_quiet_op; first | go_big_quiet_on | (apply Exists.intro; refine ⟨fun pz => ?_, ?_⟩; (first | (go_at_call 18; exact Calls.later_of (s7_right HSP HS.out (HG.out.next pz.bel) RS.out)) | (go_at_call 10; exact Calls.later_of (m9_suits H (FG.out.next pz.bel) (FF.out.next pz.bel) HPS.out (HG.out.next pz.bel) HXI.out E2.out)) | fail); go_big_quiet_on)))
            refine wpQuiet_nil ?_
            intro _ hw'
            obtain ⟨pz, rfl⟩ := hw'
            obtain ⟨w6, hb⟩ := pz
            try dsimp only
            clear zc0 zc1 zc2 zc3 zc4 zc5 zc6 zc7 zc8 zc9 zc10 zc11 zc12 zc13 zc14 zc15
            have HBq := Lib.hid (HB.out.trans (hb.mono HB.out.size))
            clear HB
            have HB := HBq
            clear HBq
            have HR1q := Lib.hid (HR1.out.trans (hb.mono HR1.out.size))
            clear HR1
            have HR1 := HR1q
            clear HR1q
            have HGq := Lib.hid (HG.out.next hb)
            clear HG
            have HG := HGq
            clear HGq
            have FGq := Lib.hid (FG.out.next hb)
            clear FG
            have FG := FGq
            clear FGq
            have FFq := Lib.hid (FF.out.next hb)
            clear FF
            have FF := FFq
            clear FFq
            have BXq := Lib.hid (BX.out.next hb)
            clear BX
            have BX := BXq
            clear BXq
            have BPq := Lib.hid (BP.out.next hb)
            clear BP
            have BP := BPq
            clear BPq
            have FLq := Lib.hid (FL.out.next hb)
            clear FL
            have FL := FLq
            clear FLq
            have CLq := Lib.hid (CL.out.next hb)
            clear CL
            have CL := CLq
            clear CLq
            have CTq := Lib.hid (CT.out.next hb)
            clear CT
            have CT := CTq
            clear CTq
            clear hb
            go_wp2
            go_roundw
            case rel => exact ⟨k + 1, by omega, by go_num, HR1.out⟩
            case measure => simp [intOf]; omega
          | true =>
            obtain ⟨_, _, hp1⟩ := hyes rfl
            clear hyes hsame hrs hp1
            by_cases hz : s.tag.size = 0
            · obtain ⟨z1, z2, z3, z4⟩ := str_none hz
              clear hz
              go_wp2
              have zc0 : ∀ p : Later wr, p.now.cell? ⟨w.heap.size, 0, none⟩ = some (.int .i64 s.nodes) := fun _ => Later.cell BX.out.lt BX.out.c0
              have zc1 : ∀ p : Later wr, p.now.cell? ⟨w.heap.size, 1, none⟩ = some (.int .i64 s.cores) := fun _ => Later.cell BX.out.lt BX.out.c1
              have zc2 : ∀ p : Later wr, p.now.cell? ⟨w.heap.size, 2, none⟩ = some (.int .i64 s.gpus) := fun _ => Later.cell BX.out.lt BX.out.c2
              have zc3 : ∀ p : Later wr, p.now.cell? ⟨w.heap.size, 3, none⟩ = some (.string s.tag) := fun _ => Later.cell BX.out.lt BX.out.c3
              have zc4 : ∀ p : Later wr, p.now.cell? ⟨w.heap.size, 4, none⟩ = some (.bool s.whole) := fun _ => Later.cell BX.out.lt BX.out.c4
              have zc5 : ∀ p : Later wr, p.now.cell? ⟨w.heap.size, 5, none⟩ = some (.int .i64 s.long) := fun _ => Later.cell BX.out.lt BX.out.c5
              have zc6 : ∀ p : Later wr, p.now.cell? ⟨w.heap.size, 6, none⟩ = some (.int .i64 s.prio) := fun _ => Later.cell BX.out.lt BX.out.c6
              have zc7 : ∀ p : Later wr, p.now.cell? ⟨bl, ol + k, none⟩ = some (.int .i64 (x : Int)) := fun _ => Later.cell CL.out.lt CL.out.at'
              refine wp_region_later (by kernel_rfl) (by kernel_rfl) ?_
              repeat (first | go_big_quiet_skip | (go_big_quiet_want; go_big_quiet_op; first | go_big_quiet_on | (apply Exists.intro; refine ⟨fun pz => ?_, ?_⟩; (first | (go_at_call 10; exact Calls.later_of (m9_suits H (FG.out.next pz.bel) (FF.out.next pz.bel) HS.out (HG.out.next pz.bel) HXI.out E1.out)) | fail); go_big_quiet_on)))
              refine wpQuiet_nil ?_
              intro _ hw'
              obtain ⟨pz, rfl⟩ := hw'
              obtain ⟨w4, hb⟩ := pz
              try dsimp only
              clear zc0 zc1 zc2 zc3 zc4 zc5 zc6 zc7
              have HBq := Lib.hid (HB.out.trans (hb.mono HB.out.size))
              clear HB
              have HB := HBq
              clear HBq
              have HR1q := Lib.hid (HR1.out.trans (hb.mono HR1.out.size))
              clear HR1
              have HR1 := HR1q
              clear HR1q
              have HGq := Lib.hid (HG.out.next hb)
              clear HG
              have HG := HGq
              clear HGq
              have FGq := Lib.hid (FG.out.next hb)
              clear FG
              have FG := FGq
              clear FGq
              have FFq := Lib.hid (FF.out.next hb)
              clear FF
              have FF := FFq
              clear FFq
              have BXq := Lib.hid (BX.out.next hb)
              clear BX
              have BX := BXq
              clear BXq
              have BPq := Lib.hid (BP.out.next hb)
              clear BP
              have BP := BPq
              clear BPq
              have FLq := Lib.hid (FL.out.next hb)
              clear FL
              have FL := FLq
              clear FLq
              have CLq := Lib.hid (CL.out.next hb)
              clear CL
              have CL := CLq
              clear CLq
              have CTq := Lib.hid (CT.out.next hb)
              clear CT
              have CT := CTq
              clear CTq
              clear hb
              go_wp2
              have zc0 : ∀ p : Later w4, p.now.cell? ⟨w.heap.size, 0, none⟩ = some (.int .i64 s.nodes) := fun _ => Later.cell BX.out.lt BX.out.c0
              have zc1 : ∀ p : Later w4, p.now.cell? ⟨w.heap.size, 1, none⟩ = some (.int .i64 s.cores) := fun _ => Later.cell BX.out.lt BX.out.c1
              have zc2 : ∀ p : Later w4, p.now.cell? ⟨w.heap.size, 2, none⟩ = some (.int .i64 s.gpus) := fun _ => Later.cell BX.out.lt BX.out.c2
              have zc3 : ∀ p : Later w4, p.now.cell? ⟨w.heap.size, 3, none⟩ = some (.string s.tag) := fun _ => Later.cell BX.out.lt BX.out.c3
              have zc4 : ∀ p : Later w4, p.now.cell? ⟨w.heap.size, 4, none⟩ = some (.bool s.whole) := fun _ => Later.cell BX.out.lt BX.out.c4
              have zc5 : ∀ p : Later w4, p.now.cell? ⟨w.heap.size, 5, none⟩ = some (.int .i64 s.long) := fun _ => Later.cell BX.out.lt BX.out.c5
              have zc6 : ∀ p : Later w4, p.now.cell? ⟨w.heap.size, 6, none⟩ = some (.int .i64 s.prio) := fun _ => Later.cell BX.out.lt BX.out.c6
              have zc7 : ∀ p : Later w4, p.now.cell? ⟨w2.heap.size, 0, none⟩ = some (.int .i64 (plainS s).nodes) := fun _ => Later.cell BP.out.lt BP.out.c0
              have zc8 : ∀ p : Later w4, p.now.cell? ⟨w2.heap.size, 1, none⟩ = some (.int .i64 (plainS s).cores) := fun _ => Later.cell BP.out.lt BP.out.c1
              have zc9 : ∀ p : Later w4, p.now.cell? ⟨w2.heap.size, 2, none⟩ = some (.int .i64 (plainS s).gpus) := fun _ => Later.cell BP.out.lt BP.out.c2
              have zc10 : ∀ p : Later w4, p.now.cell? ⟨w2.heap.size, 3, none⟩ = some (.string (plainS s).tag) := fun _ => Later.cell BP.out.lt BP.out.c3
              have zc11 : ∀ p : Later w4, p.now.cell? ⟨w2.heap.size, 4, none⟩ = some (.bool (plainS s).whole) := fun _ => Later.cell BP.out.lt BP.out.c4
              have zc12 : ∀ p : Later w4, p.now.cell? ⟨w2.heap.size, 5, none⟩ = some (.int .i64 (plainS s).long) := fun _ => Later.cell BP.out.lt BP.out.c5
              have zc13 : ∀ p : Later w4, p.now.cell? ⟨w2.heap.size, 6, none⟩ = some (.int .i64 (plainS s).prio) := fun _ => Later.cell BP.out.lt BP.out.c6
              have zc14 : ∀ p : Later w4, p.now.cell? ⟨bl, ol + k, none⟩ = some (.int .i64 (x : Int)) := fun _ => Later.cell CL.out.lt CL.out.at'
              have zc15 : ∀ p : Later w4, p.now.cell? ⟨bg, og + x * 3 + 2, none⟩ = some (.string s.tag) := fun _ => Later.cell CT.out.lt CT.out.at'
              refine wp_region_later (by kernel_rfl) (by kernel_rfl) ?_
              repeat (first | go_big_quiet_skip | (go_big_quiet_want; go_big_quiet_op; first | go_big_quiet_on | (apply Exists.intro; refine ⟨fun pz => ?_, ?_⟩; (first | (go_at_call 18; exact Calls.later_of (s7_right HSP HS.out (HG.out.next pz.bel) RS.out)) | (go_at_call 10; exact Calls.later_of (m9_suits H (FG.out.next pz.bel) (FF.out.next pz.bel) HPS.out (HG.out.next pz.bel) HXI.out E2.out)) | fail); go_big_quiet_on)))
              refine wpQuiet_nil ?_
              intro _ hw'
              obtain ⟨pz, rfl⟩ := hw'
              obtain ⟨w5, hb⟩ := pz
              try dsimp only
              clear zc0 zc1 zc2 zc3 zc4 zc5 zc6 zc7 zc8 zc9 zc10 zc11 zc12 zc13 zc14 zc15
              have HBq := Lib.hid (HB.out.trans (hb.mono HB.out.size))
              clear HB
              have HB := HBq
              clear HBq
              have HR1q := Lib.hid (HR1.out.trans (hb.mono HR1.out.size))
              clear HR1
              have HR1 := HR1q
              clear HR1q
              have HGq := Lib.hid (HG.out.next hb)
              clear HG
              have HG := HGq
              clear HGq
              have FGq := Lib.hid (FG.out.next hb)
              clear FG
              have FG := FGq
              clear FGq
              have FFq := Lib.hid (FF.out.next hb)
              clear FF
              have FF := FFq
              clear FFq
              have BXq := Lib.hid (BX.out.next hb)
              clear BX
              have BX := BXq
              clear BXq
              have BPq := Lib.hid (BP.out.next hb)
              clear BP
              have BP := BPq
              clear BPq
              have FLq := Lib.hid (FL.out.next hb)
              clear FL
              have FL := FLq
              clear FLq
              have CLq := Lib.hid (CL.out.next hb)
              clear CL
              have CL := CLq
              clear CLq
              have CTq := Lib.hid (CT.out.next hb)
              clear CT
              have CT := CTq
              clear CTq
              clear hb
              go_wp2
              have zc0 : ∀ p : Later w5, p.now.cell? ⟨w.heap.size, 0, none⟩ = some (.int .i64 s.nodes) := fun _ => Later.cell BX.out.lt BX.out.c0
              have zc1 : ∀ p : Later w5, p.now.cell? ⟨w.heap.size, 1, none⟩ = some (.int .i64 s.cores) := fun _ => Later.cell BX.out.lt BX.out.c1
              have zc2 : ∀ p : Later w5, p.now.cell? ⟨w.heap.size, 2, none⟩ = some (.int .i64 s.gpus) := fun _ => Later.cell BX.out.lt BX.out.c2
              have zc3 : ∀ p : Later w5, p.now.cell? ⟨w.heap.size, 3, none⟩ = some (.string s.tag) := fun _ => Later.cell BX.out.lt BX.out.c3
              have zc4 : ∀ p : Later w5, p.now.cell? ⟨w.heap.size, 4, none⟩ = some (.bool s.whole) := fun _ => Later.cell BX.out.lt BX.out.c4
              have zc5 : ∀ p : Later w5, p.now.cell? ⟨w.heap.size, 5, none⟩ = some (.int .i64 s.long) := fun _ => Later.cell BX.out.lt BX.out.c5
              have zc6 : ∀ p : Later w5, p.now.cell? ⟨w.heap.size, 6, none⟩ = some (.int .i64 s.prio) := fun _ => Later.cell BX.out.lt BX.out.c6
              have zc7 : ∀ p : Later w5, p.now.cell? ⟨w2.heap.size, 0, none⟩ = some (.int .i64 (plainS s).nodes) := fun _ => Later.cell BP.out.lt BP.out.c0
              have zc8 : ∀ p : Later w5, p.now.cell? ⟨w2.heap.size, 1, none⟩ = some (.int .i64 (plainS s).cores) := fun _ => Later.cell BP.out.lt BP.out.c1
              have zc9 : ∀ p : Later w5, p.now.cell? ⟨w2.heap.size, 2, none⟩ = some (.int .i64 (plainS s).gpus) := fun _ => Later.cell BP.out.lt BP.out.c2
              have zc10 : ∀ p : Later w5, p.now.cell? ⟨w2.heap.size, 3, none⟩ = some (.string (plainS s).tag) := fun _ => Later.cell BP.out.lt BP.out.c3
              have zc11 : ∀ p : Later w5, p.now.cell? ⟨w2.heap.size, 4, none⟩ = some (.bool (plainS s).whole) := fun _ => Later.cell BP.out.lt BP.out.c4
              have zc12 : ∀ p : Later w5, p.now.cell? ⟨w2.heap.size, 5, none⟩ = some (.int .i64 (plainS s).long) := fun _ => Later.cell BP.out.lt BP.out.c5
              have zc13 : ∀ p : Later w5, p.now.cell? ⟨w2.heap.size, 6, none⟩ = some (.int .i64 (plainS s).prio) := fun _ => Later.cell BP.out.lt BP.out.c6
              have zc14 : ∀ p : Later w5, p.now.cell? ⟨bl, ol + k, none⟩ = some (.int .i64 (x : Int)) := fun _ => Later.cell CL.out.lt CL.out.at'
              have zc15 : ∀ p : Later w5, p.now.cell? ⟨bg, og + x * 3 + 2, none⟩ = some (.string s.tag) := fun _ => Later.cell CT.out.lt CT.out.at'
              refine wp_region_later (by kernel_rfl) (by kernel_rfl) ?_
              repeat (first | go_big_quiet_skip | (go_big_quiet_want; go_big_quiet_op; first | go_big_quiet_on | (apply Exists.intro; refine ⟨fun pz => ?_, ?_⟩; (first | (go_at_call 18; exact Calls.later_of (s7_right HSP HS.out (HG.out.next pz.bel) RS.out)) | (go_at_call 10; exact Calls.later_of (m9_suits H (FG.out.next pz.bel) (FF.out.next pz.bel) HPS.out (HG.out.next pz.bel) HXI.out E2.out)) | fail); go_big_quiet_on)))
              refine wpQuiet_nil ?_
              intro _ hw'
              obtain ⟨pz, rfl⟩ := hw'
              obtain ⟨w6, hb⟩ := pz
              try dsimp only
              clear zc0 zc1 zc2 zc3 zc4 zc5 zc6 zc7 zc8 zc9 zc10 zc11 zc12 zc13 zc14 zc15
              have HBq := Lib.hid (HB.out.trans (hb.mono HB.out.size))
              clear HB
              have HB := HBq
              clear HBq
              have HR1q := Lib.hid (HR1.out.trans (hb.mono HR1.out.size))
              clear HR1
              have HR1 := HR1q
              clear HR1q
              have HGq := Lib.hid (HG.out.next hb)
              clear HG
              have HG := HGq
              clear HGq
              have FGq := Lib.hid (FG.out.next hb)
              clear FG
              have FG := FGq
              clear FGq
              have FFq := Lib.hid (FF.out.next hb)
              clear FF
              have FF := FFq
              clear FFq
              have BXq := Lib.hid (BX.out.next hb)
              clear BX
              have BX := BXq
              clear BXq
              have BPq := Lib.hid (BP.out.next hb)
              clear BP
              have BP := BPq
              clear BPq
              have FLq := Lib.hid (FL.out.next hb)
              clear FL
              have FL := FLq
              clear FLq
              have CLq := Lib.hid (CL.out.next hb)
              clear CL
              have CL := CLq
              clear CLq
              have CTq := Lib.hid (CT.out.next hb)
              clear CT
              have CT := CTq
              clear CTq
              clear hb
              go_wp2
              go_roundw
              case rel => exact ⟨k + 1, by omega, by go_num, HR1.out⟩
              case measure => simp [intOf]; omega
            · obtain ⟨z1, z2, z3, z4⟩ := str_facts hz
              clear hz
              go_wp2
              have zc0 : ∀ p : Later wr, p.now.cell? ⟨w.heap.size, 0, none⟩ = some (.int .i64 s.nodes) := fun _ => Later.cell BX.out.lt BX.out.c0
              have zc1 : ∀ p : Later wr, p.now.cell? ⟨w.heap.size, 1, none⟩ = some (.int .i64 s.cores) := fun _ => Later.cell BX.out.lt BX.out.c1
              have zc2 : ∀ p : Later wr, p.now.cell? ⟨w.heap.size, 2, none⟩ = some (.int .i64 s.gpus) := fun _ => Later.cell BX.out.lt BX.out.c2
              have zc3 : ∀ p : Later wr, p.now.cell? ⟨w.heap.size, 3, none⟩ = some (.string s.tag) := fun _ => Later.cell BX.out.lt BX.out.c3
              have zc4 : ∀ p : Later wr, p.now.cell? ⟨w.heap.size, 4, none⟩ = some (.bool s.whole) := fun _ => Later.cell BX.out.lt BX.out.c4
              have zc5 : ∀ p : Later wr, p.now.cell? ⟨w.heap.size, 5, none⟩ = some (.int .i64 s.long) := fun _ => Later.cell BX.out.lt BX.out.c5
              have zc6 : ∀ p : Later wr, p.now.cell? ⟨w.heap.size, 6, none⟩ = some (.int .i64 s.prio) := fun _ => Later.cell BX.out.lt BX.out.c6
              have zc7 : ∀ p : Later wr, p.now.cell? ⟨bl, ol + k, none⟩ = some (.int .i64 (x : Int)) := fun _ => Later.cell CL.out.lt CL.out.at'
              refine wp_region_later (by kernel_rfl) (by kernel_rfl) ?_
              repeat (first | go_big_quiet_skip | (go_big_quiet_want; go_big_quiet_op; first | go_big_quiet_on | (apply Exists.intro; refine ⟨fun pz => ?_, ?_⟩; (first | (go_at_call 10; exact Calls.later_of (m9_suits H (FG.out.next pz.bel) (FF.out.next pz.bel) HS.out (HG.out.next pz.bel) HXI.out E1.out)) | fail); go_big_quiet_on)))
              refine wpQuiet_nil ?_
              intro _ hw'
              obtain ⟨pz, rfl⟩ := hw'
              obtain ⟨w4, hb⟩ := pz
              try dsimp only
              clear zc0 zc1 zc2 zc3 zc4 zc5 zc6 zc7
              have HBq := Lib.hid (HB.out.trans (hb.mono HB.out.size))
              clear HB
              have HB := HBq
              clear HBq
              have HR1q := Lib.hid (HR1.out.trans (hb.mono HR1.out.size))
              clear HR1
              have HR1 := HR1q
              clear HR1q
              have HGq := Lib.hid (HG.out.next hb)
              clear HG
              have HG := HGq
              clear HGq
              have FGq := Lib.hid (FG.out.next hb)
              clear FG
              have FG := FGq
              clear FGq
              have FFq := Lib.hid (FF.out.next hb)
              clear FF
              have FF := FFq
              clear FFq
              have BXq := Lib.hid (BX.out.next hb)
              clear BX
              have BX := BXq
              clear BXq
              have BPq := Lib.hid (BP.out.next hb)
              clear BP
              have BP := BPq
              clear BPq
              have FLq := Lib.hid (FL.out.next hb)
              clear FL
              have FL := FLq
              clear FLq
              have CLq := Lib.hid (CL.out.next hb)
              clear CL
              have CL := CLq
              clear CLq
              have CTq := Lib.hid (CT.out.next hb)
              clear CT
              have CT := CTq
              clear CTq
              clear hb
              go_wp2
              have zc0 : ∀ p : Later w4, p.now.cell? ⟨w.heap.size, 0, none⟩ = some (.int .i64 s.nodes) := fun _ => Later.cell BX.out.lt BX.out.c0
              have zc1 : ∀ p : Later w4, p.now.cell? ⟨w.heap.size, 1, none⟩ = some (.int .i64 s.cores) := fun _ => Later.cell BX.out.lt BX.out.c1
              have zc2 : ∀ p : Later w4, p.now.cell? ⟨w.heap.size, 2, none⟩ = some (.int .i64 s.gpus) := fun _ => Later.cell BX.out.lt BX.out.c2
              have zc3 : ∀ p : Later w4, p.now.cell? ⟨w.heap.size, 3, none⟩ = some (.string s.tag) := fun _ => Later.cell BX.out.lt BX.out.c3
              have zc4 : ∀ p : Later w4, p.now.cell? ⟨w.heap.size, 4, none⟩ = some (.bool s.whole) := fun _ => Later.cell BX.out.lt BX.out.c4
              have zc5 : ∀ p : Later w4, p.now.cell? ⟨w.heap.size, 5, none⟩ = some (.int .i64 s.long) := fun _ => Later.cell BX.out.lt BX.out.c5
              have zc6 : ∀ p : Later w4, p.now.cell? ⟨w.heap.size, 6, none⟩ = some (.int .i64 s.prio) := fun _ => Later.cell BX.out.lt BX.out.c6
              have zc7 : ∀ p : Later w4, p.now.cell? ⟨w2.heap.size, 0, none⟩ = some (.int .i64 (plainS s).nodes) := fun _ => Later.cell BP.out.lt BP.out.c0
              have zc8 : ∀ p : Later w4, p.now.cell? ⟨w2.heap.size, 1, none⟩ = some (.int .i64 (plainS s).cores) := fun _ => Later.cell BP.out.lt BP.out.c1
              have zc9 : ∀ p : Later w4, p.now.cell? ⟨w2.heap.size, 2, none⟩ = some (.int .i64 (plainS s).gpus) := fun _ => Later.cell BP.out.lt BP.out.c2
              have zc10 : ∀ p : Later w4, p.now.cell? ⟨w2.heap.size, 3, none⟩ = some (.string (plainS s).tag) := fun _ => Later.cell BP.out.lt BP.out.c3
              have zc11 : ∀ p : Later w4, p.now.cell? ⟨w2.heap.size, 4, none⟩ = some (.bool (plainS s).whole) := fun _ => Later.cell BP.out.lt BP.out.c4
              have zc12 : ∀ p : Later w4, p.now.cell? ⟨w2.heap.size, 5, none⟩ = some (.int .i64 (plainS s).long) := fun _ => Later.cell BP.out.lt BP.out.c5
              have zc13 : ∀ p : Later w4, p.now.cell? ⟨w2.heap.size, 6, none⟩ = some (.int .i64 (plainS s).prio) := fun _ => Later.cell BP.out.lt BP.out.c6
              have zc14 : ∀ p : Later w4, p.now.cell? ⟨bl, ol + k, none⟩ = some (.int .i64 (x : Int)) := fun _ => Later.cell CL.out.lt CL.out.at'
              have zc15 : ∀ p : Later w4, p.now.cell? ⟨bg, og + x * 3 + 2, none⟩ = some (.string s.tag) := fun _ => Later.cell CT.out.lt CT.out.at'
              refine wp_region_later (by kernel_rfl) (by kernel_rfl) ?_
              repeat (first | go_big_quiet_skip | (go_big_quiet_want; go_big_quiet_op; first | go_big_quiet_on | (apply Exists.intro; refine ⟨fun pz => ?_, ?_⟩; (first | (go_at_call 18; exact Calls.later_of (s7_right HSP HS.out (HG.out.next pz.bel) RS.out)) | (go_at_call 10; exact Calls.later_of (m9_suits H (FG.out.next pz.bel) (FF.out.next pz.bel) HPS.out (HG.out.next pz.bel) HXI.out E2.out)) | fail); go_big_quiet_on)))
              refine wpQuiet_nil ?_
              intro _ hw'
              obtain ⟨pz, rfl⟩ := hw'
              obtain ⟨w5, hb⟩ := pz
              try dsimp only
              clear zc0 zc1 zc2 zc3 zc4 zc5 zc6 zc7 zc8 zc9 zc10 zc11 zc12 zc13 zc14 zc15
              have HBq := Lib.hid (HB.out.trans (hb.mono HB.out.size))
              clear HB
              have HB := HBq
              clear HBq
              have HR1q := Lib.hid (HR1.out.trans (hb.mono HR1.out.size))
              clear HR1
              have HR1 := HR1q
              clear HR1q
              have HGq := Lib.hid (HG.out.next hb)
              clear HG
              have HG := HGq
              clear HGq
              have FGq := Lib.hid (FG.out.next hb)
              clear FG
              have FG := FGq
              clear FGq
              have FFq := Lib.hid (FF.out.next hb)
              clear FF
              have FF := FFq
              clear FFq
              have BXq := Lib.hid (BX.out.next hb)
              clear BX
              have BX := BXq
              clear BXq
              have BPq := Lib.hid (BP.out.next hb)
              clear BP
              have BP := BPq
              clear BPq
              have FLq := Lib.hid (FL.out.next hb)
              clear FL
              have FL := FLq
              clear FLq
              have CLq := Lib.hid (CL.out.next hb)
              clear CL
              have CL := CLq
              clear CLq
              have CTq := Lib.hid (CT.out.next hb)
              clear CT
              have CT := CTq
              clear CTq
              clear hb
              go_wp2
              have zc0 : ∀ p : Later w5, p.now.cell? ⟨w.heap.size, 0, none⟩ = some (.int .i64 s.nodes) := fun _ => Later.cell BX.out.lt BX.out.c0
              have zc1 : ∀ p : Later w5, p.now.cell? ⟨w.heap.size, 1, none⟩ = some (.int .i64 s.cores) := fun _ => Later.cell BX.out.lt BX.out.c1
              have zc2 : ∀ p : Later w5, p.now.cell? ⟨w.heap.size, 2, none⟩ = some (.int .i64 s.gpus) := fun _ => Later.cell BX.out.lt BX.out.c2
              have zc3 : ∀ p : Later w5, p.now.cell? ⟨w.heap.size, 3, none⟩ = some (.string s.tag) := fun _ => Later.cell BX.out.lt BX.out.c3
              have zc4 : ∀ p : Later w5, p.now.cell? ⟨w.heap.size, 4, none⟩ = some (.bool s.whole) := fun _ => Later.cell BX.out.lt BX.out.c4
              have zc5 : ∀ p : Later w5, p.now.cell? ⟨w.heap.size, 5, none⟩ = some (.int .i64 s.long) := fun _ => Later.cell BX.out.lt BX.out.c5
              have zc6 : ∀ p : Later w5, p.now.cell? ⟨w.heap.size, 6, none⟩ = some (.int .i64 s.prio) := fun _ => Later.cell BX.out.lt BX.out.c6
              have zc7 : ∀ p : Later w5, p.now.cell? ⟨w2.heap.size, 0, none⟩ = some (.int .i64 (plainS s).nodes) := fun _ => Later.cell BP.out.lt BP.out.c0
              have zc8 : ∀ p : Later w5, p.now.cell? ⟨w2.heap.size, 1, none⟩ = some (.int .i64 (plainS s).cores) := fun _ => Later.cell BP.out.lt BP.out.c1
              have zc9 : ∀ p : Later w5, p.now.cell? ⟨w2.heap.size, 2, none⟩ = some (.int .i64 (plainS s).gpus) := fun _ => Later.cell BP.out.lt BP.out.c2
              have zc10 : ∀ p : Later w5, p.now.cell? ⟨w2.heap.size, 3, none⟩ = some (.string (plainS s).tag) := fun _ => Later.cell BP.out.lt BP.out.c3
              have zc11 : ∀ p : Later w5, p.now.cell? ⟨w2.heap.size, 4, none⟩ = some (.bool (plainS s).whole) := fun _ => Later.cell BP.out.lt BP.out.c4
              have zc12 : ∀ p : Later w5, p.now.cell? ⟨w2.heap.size, 5, none⟩ = some (.int .i64 (plainS s).long) := fun _ => Later.cell BP.out.lt BP.out.c5
              have zc13 : ∀ p : Later w5, p.now.cell? ⟨w2.heap.size, 6, none⟩ = some (.int .i64 (plainS s).prio) := fun _ => Later.cell BP.out.lt BP.out.c6
              have zc14 : ∀ p : Later w5, p.now.cell? ⟨bl, ol + k, none⟩ = some (.int .i64 (x : Int)) := fun _ => Later.cell CL.out.lt CL.out.at'
              have zc15 : ∀ p : Later w5, p.now.cell? ⟨bg, og + x * 3 + 2, none⟩ = some (.string s.tag) := fun _ => Later.cell CT.out.lt CT.out.at'
              refine wp_region_later (by kernel_rfl) (by kernel_rfl) ?_
              repeat (first | go_big_quiet_skip | (go_big_quiet_want; go_big_quiet_op; first | go_big_quiet_on | (apply Exists.intro; refine ⟨fun pz => ?_, ?_⟩; (first | (go_at_call 18; exact Calls.later_of (s7_right HSP HS.out (HG.out.next pz.bel) RS.out)) | (go_at_call 10; exact Calls.later_of (m9_suits H (FG.out.next pz.bel) (FF.out.next pz.bel) HPS.out (HG.out.next pz.bel) HXI.out E2.out)) | fail); go_big_quiet_on)))
              refine wpQuiet_nil ?_
              intro _ hw'
              obtain ⟨pz, rfl⟩ := hw'
              obtain ⟨w6, hb⟩ := pz
              try dsimp only
              clear zc0 zc1 zc2 zc3 zc4 zc5 zc6 zc7 zc8 zc9 zc10 zc11 zc12 zc13 zc14 zc15
              have HBq := Lib.hid (HB.out.trans (hb.mono HB.out.size))
              clear HB
              have HB := HBq
              clear HBq
              have HR1q := Lib.hid (HR1.out.trans (hb.mono HR1.out.size))
              clear HR1
              have HR1 := HR1q
              clear HR1q
              have HGq := Lib.hid (HG.out.next hb)
              clear HG
              have HG := HGq
              clear HGq
              have FGq := Lib.hid (FG.out.next hb)
              clear FG
              have FG := FGq
              clear FGq
              have FFq := Lib.hid (FF.out.next hb)
              clear FF
              have FF := FFq
              clear FFq
              have BXq := Lib.hid (BX.out.next hb)
              clear BX
              have BX := BXq
              clear BXq
              have BPq := Lib.hid (BP.out.next hb)
              clear BP
              have BP := BPq
              clear BPq
              have FLq := Lib.hid (FL.out.next hb)
              clear FL
              have FL := FLq
              clear FLq
              have CLq := Lib.hid (CL.out.next hb)
              clear CL
              have CL := CLq
              clear CLq
              have CTq := Lib.hid (CT.out.next hb)
              clear CT
              have CT := CTq
              clear CTq
              clear hb
              go_wp2
              go_roundw
              case rel => exact ⟨k + 1, by omega, by go_num, HR1.out⟩
              case measure => simp [intOf]; omega
        · obtain ⟨y1, y2, y3⟩ := str_ne hte
          cases v with
          | false =>
            clear hyes hsame hrs hte htx
            go_wp2
            have zc0 : ∀ p : Later wr, p.now.cell? ⟨w.heap.size, 0, none⟩ = some (.int .i64 s.nodes) := fun _ => Later.cell BX.out.lt BX.out.c0
            have zc1 : ∀ p : Later wr, p.now.cell? ⟨w.heap.size, 1, none⟩ = some (.int .i64 s.cores) := fun _ => Later.cell BX.out.lt BX.out.c1
            have zc2 : ∀ p : Later wr, p.now.cell? ⟨w.heap.size, 2, none⟩ = some (.int .i64 s.gpus) := fun _ => Later.cell BX.out.lt BX.out.c2
            have zc3 : ∀ p : Later wr, p.now.cell? ⟨w.heap.size, 3, none⟩ = some (.string s.tag) := fun _ => Later.cell BX.out.lt BX.out.c3
            have zc4 : ∀ p : Later wr, p.now.cell? ⟨w.heap.size, 4, none⟩ = some (.bool s.whole) := fun _ => Later.cell BX.out.lt BX.out.c4
            have zc5 : ∀ p : Later wr, p.now.cell? ⟨w.heap.size, 5, none⟩ = some (.int .i64 s.long) := fun _ => Later.cell BX.out.lt BX.out.c5
            have zc6 : ∀ p : Later wr, p.now.cell? ⟨w.heap.size, 6, none⟩ = some (.int .i64 s.prio) := fun _ => Later.cell BX.out.lt BX.out.c6
            have zc7 : ∀ p : Later wr, p.now.cell? ⟨bl, ol + k, none⟩ = some (.int .i64 (x : Int)) := fun _ => Later.cell CL.out.lt CL.out.at'
            refine wp_region_later (by kernel_rfl) (by kernel_rfl) ?_
            repeat (first | go_big_quiet_skip | (go_big_quiet_want; go_big_quiet_op; first | go_big_quiet_on | (apply Exists.intro; refine ⟨fun pz => ?_, ?_⟩; (first | (go_at_call 10; exact Calls.later_of (m9_suits H (FG.out.next pz.bel) (FF.out.next pz.bel) HS.out (HG.out.next pz.bel) HXI.out E1.out)) | fail); go_big_quiet_on)))
            refine wpQuiet_nil ?_
            intro _ hw'
            obtain ⟨pz, rfl⟩ := hw'
            obtain ⟨w4, hb⟩ := pz
            try dsimp only
            clear zc0 zc1 zc2 zc3 zc4 zc5 zc6 zc7
            have HBq := Lib.hid (HB.out.trans (hb.mono HB.out.size))
            clear HB
            have HB := HBq
            clear HBq
            have HR1q := Lib.hid (HR1.out.trans (hb.mono HR1.out.size))
            clear HR1
            have HR1 := HR1q
            clear HR1q
            have HGq := Lib.hid (HG.out.next hb)
            clear HG
            have HG := HGq
            clear HGq
            have FGq := Lib.hid (FG.out.next hb)
            clear FG
            have FG := FGq
            clear FGq
            have FFq := Lib.hid (FF.out.next hb)
            clear FF
            have FF := FFq
            clear FFq
            have BXq := Lib.hid (BX.out.next hb)
            clear BX
            have BX := BXq
            clear BXq
            have BPq := Lib.hid (BP.out.next hb)
            clear BP
            have BP := BPq
            clear BPq
            have FLq := Lib.hid (FL.out.next hb)
            clear FL
            have FL := FLq
            clear FLq
            have CLq := Lib.hid (CL.out.next hb)
            clear CL
            have CL := CLq
            clear CLq
            have CTq := Lib.hid (CT.out.next hb)
            clear CT
            have CT := CTq
            clear CTq
            clear hb
            go_wp2
            have zc0 : ∀ p : Later w4, p.now.cell? ⟨w.heap.size, 0, none⟩ = some (.int .i64 s.nodes) := fun _ => Later.cell BX.out.lt BX.out.c0
            have zc1 : ∀ p : Later w4, p.now.cell? ⟨w.heap.size, 1, none⟩ = some (.int .i64 s.cores) := fun _ => Later.cell BX.out.lt BX.out.c1
            have zc2 : ∀ p : Later w4, p.now.cell? ⟨w.heap.size, 2, none⟩ = some (.int .i64 s.gpus) := fun _ => Later.cell BX.out.lt BX.out.c2
            have zc3 : ∀ p : Later w4, p.now.cell? ⟨w.heap.size, 3, none⟩ = some (.string s.tag) := fun _ => Later.cell BX.out.lt BX.out.c3
            have zc4 : ∀ p : Later w4, p.now.cell? ⟨w.heap.size, 4, none⟩ = some (.bool s.whole) := fun _ => Later.cell BX.out.lt BX.out.c4
            have zc5 : ∀ p : Later w4, p.now.cell? ⟨w.heap.size, 5, none⟩ = some (.int .i64 s.long) := fun _ => Later.cell BX.out.lt BX.out.c5
            have zc6 : ∀ p : Later w4, p.now.cell? ⟨w.heap.size, 6, none⟩ = some (.int .i64 s.prio) := fun _ => Later.cell BX.out.lt BX.out.c6
            have zc7 : ∀ p : Later w4, p.now.cell? ⟨w2.heap.size, 0, none⟩ = some (.int .i64 (plainS s).nodes) := fun _ => Later.cell BP.out.lt BP.out.c0
            have zc8 : ∀ p : Later w4, p.now.cell? ⟨w2.heap.size, 1, none⟩ = some (.int .i64 (plainS s).cores) := fun _ => Later.cell BP.out.lt BP.out.c1
            have zc9 : ∀ p : Later w4, p.now.cell? ⟨w2.heap.size, 2, none⟩ = some (.int .i64 (plainS s).gpus) := fun _ => Later.cell BP.out.lt BP.out.c2
            have zc10 : ∀ p : Later w4, p.now.cell? ⟨w2.heap.size, 3, none⟩ = some (.string (plainS s).tag) := fun _ => Later.cell BP.out.lt BP.out.c3
            have zc11 : ∀ p : Later w4, p.now.cell? ⟨w2.heap.size, 4, none⟩ = some (.bool (plainS s).whole) := fun _ => Later.cell BP.out.lt BP.out.c4
            have zc12 : ∀ p : Later w4, p.now.cell? ⟨w2.heap.size, 5, none⟩ = some (.int .i64 (plainS s).long) := fun _ => Later.cell BP.out.lt BP.out.c5
            have zc13 : ∀ p : Later w4, p.now.cell? ⟨w2.heap.size, 6, none⟩ = some (.int .i64 (plainS s).prio) := fun _ => Later.cell BP.out.lt BP.out.c6
            have zc14 : ∀ p : Later w4, p.now.cell? ⟨bl, ol + k, none⟩ = some (.int .i64 (x : Int)) := fun _ => Later.cell CL.out.lt CL.out.at'
            have zc15 : ∀ p : Later w4, p.now.cell? ⟨bg, og + x * 3 + 2, none⟩ = some (.string tx) := fun _ => Later.cell CT.out.lt CT.out.at'
            refine wp_region_later (by kernel_rfl) (by kernel_rfl) ?_
            repeat (first | go_big_quiet_skip | (go_big_quiet_want; go_big_quiet_op; first | go_big_quiet_on | (apply Exists.intro; refine ⟨fun pz => ?_, ?_⟩; (first | (go_at_call 18; exact Calls.later_of (s7_right HSP HS.out (HG.out.next pz.bel) RS.out)) | fail); go_big_quiet_on)))
            refine wpQuiet_nil ?_
            intro _ hw'
            obtain ⟨pz, rfl⟩ := hw'
            obtain ⟨w5, hb⟩ := pz
            try dsimp only
            clear zc0 zc1 zc2 zc3 zc4 zc5 zc6 zc7 zc8 zc9 zc10 zc11 zc12 zc13 zc14 zc15
            have HBq := Lib.hid (HB.out.trans (hb.mono HB.out.size))
            clear HB
            have HB := HBq
            clear HBq
            have HR1q := Lib.hid (HR1.out.trans (hb.mono HR1.out.size))
            clear HR1
            have HR1 := HR1q
            clear HR1q
            have HGq := Lib.hid (HG.out.next hb)
            clear HG
            have HG := HGq
            clear HGq
            have FGq := Lib.hid (FG.out.next hb)
            clear FG
            have FG := FGq
            clear FGq
            have FFq := Lib.hid (FF.out.next hb)
            clear FF
            have FF := FFq
            clear FFq
            have BXq := Lib.hid (BX.out.next hb)
            clear BX
            have BX := BXq
            clear BXq
            have BPq := Lib.hid (BP.out.next hb)
            clear BP
            have BP := BPq
            clear BPq
            have FLq := Lib.hid (FL.out.next hb)
            clear FL
            have FL := FLq
            clear FLq
            have CLq := Lib.hid (CL.out.next hb)
            clear CL
            have CL := CLq
            clear CLq
            have CTq := Lib.hid (CT.out.next hb)
            clear CT
            have CT := CTq
            clear CTq
            clear hb
            go_wp2
            have zc0 : ∀ p : Later w5, p.now.cell? ⟨w.heap.size, 0, none⟩ = some (.int .i64 s.nodes) := fun _ => Later.cell BX.out.lt BX.out.c0
            have zc1 : ∀ p : Later w5, p.now.cell? ⟨w.heap.size, 1, none⟩ = some (.int .i64 s.cores) := fun _ => Later.cell BX.out.lt BX.out.c1
            have zc2 : ∀ p : Later w5, p.now.cell? ⟨w.heap.size, 2, none⟩ = some (.int .i64 s.gpus) := fun _ => Later.cell BX.out.lt BX.out.c2
            have zc3 : ∀ p : Later w5, p.now.cell? ⟨w.heap.size, 3, none⟩ = some (.string s.tag) := fun _ => Later.cell BX.out.lt BX.out.c3
            have zc4 : ∀ p : Later w5, p.now.cell? ⟨w.heap.size, 4, none⟩ = some (.bool s.whole) := fun _ => Later.cell BX.out.lt BX.out.c4
            have zc5 : ∀ p : Later w5, p.now.cell? ⟨w.heap.size, 5, none⟩ = some (.int .i64 s.long) := fun _ => Later.cell BX.out.lt BX.out.c5
            have zc6 : ∀ p : Later w5, p.now.cell? ⟨w.heap.size, 6, none⟩ = some (.int .i64 s.prio) := fun _ => Later.cell BX.out.lt BX.out.c6
            have zc7 : ∀ p : Later w5, p.now.cell? ⟨w2.heap.size, 0, none⟩ = some (.int .i64 (plainS s).nodes) := fun _ => Later.cell BP.out.lt BP.out.c0
            have zc8 : ∀ p : Later w5, p.now.cell? ⟨w2.heap.size, 1, none⟩ = some (.int .i64 (plainS s).cores) := fun _ => Later.cell BP.out.lt BP.out.c1
            have zc9 : ∀ p : Later w5, p.now.cell? ⟨w2.heap.size, 2, none⟩ = some (.int .i64 (plainS s).gpus) := fun _ => Later.cell BP.out.lt BP.out.c2
            have zc10 : ∀ p : Later w5, p.now.cell? ⟨w2.heap.size, 3, none⟩ = some (.string (plainS s).tag) := fun _ => Later.cell BP.out.lt BP.out.c3
            have zc11 : ∀ p : Later w5, p.now.cell? ⟨w2.heap.size, 4, none⟩ = some (.bool (plainS s).whole) := fun _ => Later.cell BP.out.lt BP.out.c4
            have zc12 : ∀ p : Later w5, p.now.cell? ⟨w2.heap.size, 5, none⟩ = some (.int .i64 (plainS s).long) := fun _ => Later.cell BP.out.lt BP.out.c5
            have zc13 : ∀ p : Later w5, p.now.cell? ⟨w2.heap.size, 6, none⟩ = some (.int .i64 (plainS s).prio) := fun _ => Later.cell BP.out.lt BP.out.c6
            have zc14 : ∀ p : Later w5, p.now.cell? ⟨bl, ol + k, none⟩ = some (.int .i64 (x : Int)) := fun _ => Later.cell CL.out.lt CL.out.at'
            have zc15 : ∀ p : Later w5, p.now.cell? ⟨bg, og + x * 3 + 2, none⟩ = some (.string tx) := fun _ => Later.cell CT.out.lt CT.out.at'
            refine wp_region_later (by kernel_rfl) (by kernel_rfl) ?_
            repeat (first | go_big_quiet_skip | (go_big_quiet_want; go_big_quiet_op; first | go_big_quiet_on | (apply Exists.intro; refine ⟨fun pz => ?_, ?_⟩; (first | (go_at_call 18; exact Calls.later_of (s7_right HSP HS.out (HG.out.next pz.bel) RS.out)) | fail); go_big_quiet_on)))
            refine wpQuiet_nil ?_
            intro _ hw'
            obtain ⟨pz, rfl⟩ := hw'
            obtain ⟨w6, hb⟩ := pz
            try dsimp only
            clear zc0 zc1 zc2 zc3 zc4 zc5 zc6 zc7 zc8 zc9 zc10 zc11 zc12 zc13 zc14 zc15
            have HBq := Lib.hid (HB.out.trans (hb.mono HB.out.size))
            clear HB
            have HB := HBq
            clear HBq
            have HR1q := Lib.hid (HR1.out.trans (hb.mono HR1.out.size))
            clear HR1
            have HR1 := HR1q
            clear HR1q
            have HGq := Lib.hid (HG.out.next hb)
            clear HG
            have HG := HGq
            clear HGq
            have FGq := Lib.hid (FG.out.next hb)
            clear FG
            have FG := FGq
            clear FGq
            have FFq := Lib.hid (FF.out.next hb)
            clear FF
            have FF := FFq
            clear FFq
            have BXq := Lib.hid (BX.out.next hb)
            clear BX
            have BX := BXq
            clear BXq
            have BPq := Lib.hid (BP.out.next hb)
            clear BP
            have BP := BPq
            clear BPq
            have FLq := Lib.hid (FL.out.next hb)
            clear FL
            have FL := FLq
            clear FLq
            have CLq := Lib.hid (CL.out.next hb)
            clear CL
            have CL := CLq
            clear CLq
            have CTq := Lib.hid (CT.out.next hb)
            clear CT
            have CT := CTq
            clear CTq
            clear hb
            go_wp2
            go_roundw
            case rel => exact ⟨k + 1, by omega, by go_num, HR1.out⟩
            case measure => simp [intOf]; omega
          | true =>
            obtain ⟨_, hzt, hp1⟩ := hyes rfl
            have hz : s.tag.size = 0 := hzt.resolve_right hte
            subst hp1
            obtain ⟨z1, z2, z3, z4⟩ := str_none hz
            have y4 : (tx.toList == []) = false := by rw [← z1]; exact y1
            have y5 : ¬ tx.toList = [] := by rw [← z1]; exact y3
            have y6 : tx.toList.isEmpty = false := by rw [List.isEmpty_eq_false_iff]; exact y5
            have y7 : (tx.toList != []) = true := by rw [← z1]; exact y2
            clear hz hyes hsame hrs hte hzt htx
            go_wp2
            have zc0 : ∀ p : Later wr, p.now.cell? ⟨w.heap.size, 0, none⟩ = some (.int .i64 s.nodes) := fun _ => Later.cell BX.out.lt BX.out.c0
            have zc1 : ∀ p : Later wr, p.now.cell? ⟨w.heap.size, 1, none⟩ = some (.int .i64 s.cores) := fun _ => Later.cell BX.out.lt BX.out.c1
            have zc2 : ∀ p : Later wr, p.now.cell? ⟨w.heap.size, 2, none⟩ = some (.int .i64 s.gpus) := fun _ => Later.cell BX.out.lt BX.out.c2
            have zc3 : ∀ p : Later wr, p.now.cell? ⟨w.heap.size, 3, none⟩ = some (.string s.tag) := fun _ => Later.cell BX.out.lt BX.out.c3
            have zc4 : ∀ p : Later wr, p.now.cell? ⟨w.heap.size, 4, none⟩ = some (.bool s.whole) := fun _ => Later.cell BX.out.lt BX.out.c4
            have zc5 : ∀ p : Later wr, p.now.cell? ⟨w.heap.size, 5, none⟩ = some (.int .i64 s.long) := fun _ => Later.cell BX.out.lt BX.out.c5
            have zc6 : ∀ p : Later wr, p.now.cell? ⟨w.heap.size, 6, none⟩ = some (.int .i64 s.prio) := fun _ => Later.cell BX.out.lt BX.out.c6
            have zc7 : ∀ p : Later wr, p.now.cell? ⟨bl, ol + k, none⟩ = some (.int .i64 (x : Int)) := fun _ => Later.cell CL.out.lt CL.out.at'
            refine wp_region_later (by kernel_rfl) (by kernel_rfl) ?_
            repeat (first | go_big_quiet_skip | (go_big_quiet_want; go_big_quiet_op; first | go_big_quiet_on | (apply Exists.intro; refine ⟨fun pz => ?_, ?_⟩; (first | (go_at_call 10; exact Calls.later_of (m9_suits H (FG.out.next pz.bel) (FF.out.next pz.bel) HS.out (HG.out.next pz.bel) HXI.out E1.out)) | fail); go_big_quiet_on)))
            refine wpQuiet_nil ?_
            intro _ hw'
            obtain ⟨pz, rfl⟩ := hw'
            obtain ⟨w4, hb⟩ := pz
            try dsimp only
            clear zc0 zc1 zc2 zc3 zc4 zc5 zc6 zc7
            have HBq := Lib.hid (HB.out.trans (hb.mono HB.out.size))
            clear HB
            have HB := HBq
            clear HBq
            have HR1q := Lib.hid (HR1.out.trans (hb.mono HR1.out.size))
            clear HR1
            have HR1 := HR1q
            clear HR1q
            have HGq := Lib.hid (HG.out.next hb)
            clear HG
            have HG := HGq
            clear HGq
            have FGq := Lib.hid (FG.out.next hb)
            clear FG
            have FG := FGq
            clear FGq
            have FFq := Lib.hid (FF.out.next hb)
            clear FF
            have FF := FFq
            clear FFq
            have BXq := Lib.hid (BX.out.next hb)
            clear BX
            have BX := BXq
            clear BXq
            have BPq := Lib.hid (BP.out.next hb)
            clear BP
            have BP := BPq
            clear BPq
            have FLq := Lib.hid (FL.out.next hb)
            clear FL
            have FL := FLq
            clear FLq
            have CLq := Lib.hid (CL.out.next hb)
            clear CL
            have CL := CLq
            clear CLq
            have CTq := Lib.hid (CT.out.next hb)
            clear CT
            have CT := CTq
            clear CTq
            clear hb
            go_wp2
            have zc0 : ∀ p : Later w4, p.now.cell? ⟨w.heap.size, 0, none⟩ = some (.int .i64 s.nodes) := fun _ => Later.cell BX.out.lt BX.out.c0
            have zc1 : ∀ p : Later w4, p.now.cell? ⟨w.heap.size, 1, none⟩ = some (.int .i64 s.cores) := fun _ => Later.cell BX.out.lt BX.out.c1
            have zc2 : ∀ p : Later w4, p.now.cell? ⟨w.heap.size, 2, none⟩ = some (.int .i64 s.gpus) := fun _ => Later.cell BX.out.lt BX.out.c2
            have zc3 : ∀ p : Later w4, p.now.cell? ⟨w.heap.size, 3, none⟩ = some (.string s.tag) := fun _ => Later.cell BX.out.lt BX.out.c3
            have zc4 : ∀ p : Later w4, p.now.cell? ⟨w.heap.size, 4, none⟩ = some (.bool s.whole) := fun _ => Later.cell BX.out.lt BX.out.c4
            have zc5 : ∀ p : Later w4, p.now.cell? ⟨w.heap.size, 5, none⟩ = some (.int .i64 s.long) := fun _ => Later.cell BX.out.lt BX.out.c5
            have zc6 : ∀ p : Later w4, p.now.cell? ⟨w.heap.size, 6, none⟩ = some (.int .i64 s.prio) := fun _ => Later.cell BX.out.lt BX.out.c6
            have zc7 : ∀ p : Later w4, p.now.cell? ⟨w2.heap.size, 0, none⟩ = some (.int .i64 (plainS s).nodes) := fun _ => Later.cell BP.out.lt BP.out.c0
            have zc8 : ∀ p : Later w4, p.now.cell? ⟨w2.heap.size, 1, none⟩ = some (.int .i64 (plainS s).cores) := fun _ => Later.cell BP.out.lt BP.out.c1
            have zc9 : ∀ p : Later w4, p.now.cell? ⟨w2.heap.size, 2, none⟩ = some (.int .i64 (plainS s).gpus) := fun _ => Later.cell BP.out.lt BP.out.c2
            have zc10 : ∀ p : Later w4, p.now.cell? ⟨w2.heap.size, 3, none⟩ = some (.string (plainS s).tag) := fun _ => Later.cell BP.out.lt BP.out.c3
            have zc11 : ∀ p : Later w4, p.now.cell? ⟨w2.heap.size, 4, none⟩ = some (.bool (plainS s).whole) := fun _ => Later.cell BP.out.lt BP.out.c4
            have zc12 : ∀ p : Later w4, p.now.cell? ⟨w2.heap.size, 5, none⟩ = some (.int .i64 (plainS s).long) := fun _ => Later.cell BP.out.lt BP.out.c5
            have zc13 : ∀ p : Later w4, p.now.cell? ⟨w2.heap.size, 6, none⟩ = some (.int .i64 (plainS s).prio) := fun _ => Later.cell BP.out.lt BP.out.c6
            have zc14 : ∀ p : Later w4, p.now.cell? ⟨bl, ol + k, none⟩ = some (.int .i64 (x : Int)) := fun _ => Later.cell CL.out.lt CL.out.at'
            have zc15 : ∀ p : Later w4, p.now.cell? ⟨bg, og + x * 3 + 2, none⟩ = some (.string tx) := fun _ => Later.cell CT.out.lt CT.out.at'
            refine wp_region_later (by kernel_rfl) (by kernel_rfl) ?_
            repeat (first | go_big_quiet_skip | (go_big_quiet_want; go_big_quiet_op; first | go_big_quiet_on | (apply Exists.intro; refine ⟨fun pz => ?_, ?_⟩; (first | (go_at_call 18; exact Calls.later_of (s7_right HSP HS.out (HG.out.next pz.bel) RS.out)) | (go_at_call 10; exact Calls.later_of (m9_suits H (FG.out.next pz.bel) (FF.out.next pz.bel) HPS.out (HG.out.next pz.bel) HXI.out E2.out)) | fail); go_big_quiet_on)))
            refine wpQuiet_nil ?_
            intro _ hw'
            obtain ⟨pz, rfl⟩ := hw'
            obtain ⟨w5, hb⟩ := pz
            try dsimp only
            clear zc0 zc1 zc2 zc3 zc4 zc5 zc6 zc7 zc8 zc9 zc10 zc11 zc12 zc13 zc14 zc15
            have HBq := Lib.hid (HB.out.trans (hb.mono HB.out.size))
            clear HB
            have HB := HBq
            clear HBq
            have HR1q := Lib.hid (HR1.out.trans (hb.mono HR1.out.size))
            clear HR1
            have HR1 := HR1q
            clear HR1q
            have HGq := Lib.hid (HG.out.next hb)
            clear HG
            have HG := HGq
            clear HGq
            have FGq := Lib.hid (FG.out.next hb)
            clear FG
            have FG := FGq
            clear FGq
            have FFq := Lib.hid (FF.out.next hb)
            clear FF
            have FF := FFq
            clear FFq
            have BXq := Lib.hid (BX.out.next hb)
            clear BX
            have BX := BXq
            clear BXq
            have BPq := Lib.hid (BP.out.next hb)
            clear BP
            have BP := BPq
            clear BPq
            have FLq := Lib.hid (FL.out.next hb)
            clear FL
            have FL := FLq
            clear FLq
            have CLq := Lib.hid (CL.out.next hb)
            clear CL
            have CL := CLq
            clear CLq
            have CTq := Lib.hid (CT.out.next hb)
            clear CT
            have CT := CTq
            clear CTq
            clear hb
            go_wp2
            have zc0 : ∀ p : Later w5, p.now.cell? ⟨w.heap.size, 0, none⟩ = some (.int .i64 s.nodes) := fun _ => Later.cell BX.out.lt BX.out.c0
            have zc1 : ∀ p : Later w5, p.now.cell? ⟨w.heap.size, 1, none⟩ = some (.int .i64 s.cores) := fun _ => Later.cell BX.out.lt BX.out.c1
            have zc2 : ∀ p : Later w5, p.now.cell? ⟨w.heap.size, 2, none⟩ = some (.int .i64 s.gpus) := fun _ => Later.cell BX.out.lt BX.out.c2
            have zc3 : ∀ p : Later w5, p.now.cell? ⟨w.heap.size, 3, none⟩ = some (.string s.tag) := fun _ => Later.cell BX.out.lt BX.out.c3
            have zc4 : ∀ p : Later w5, p.now.cell? ⟨w.heap.size, 4, none⟩ = some (.bool s.whole) := fun _ => Later.cell BX.out.lt BX.out.c4
            have zc5 : ∀ p : Later w5, p.now.cell? ⟨w.heap.size, 5, none⟩ = some (.int .i64 s.long) := fun _ => Later.cell BX.out.lt BX.out.c5
            have zc6 : ∀ p : Later w5, p.now.cell? ⟨w.heap.size, 6, none⟩ = some (.int .i64 s.prio) := fun _ => Later.cell BX.out.lt BX.out.c6
            have zc7 : ∀ p : Later w5, p.now.cell? ⟨w2.heap.size, 0, none⟩ = some (.int .i64 (plainS s).nodes) := fun _ => Later.cell BP.out.lt BP.out.c0
            have zc8 : ∀ p : Later w5, p.now.cell? ⟨w2.heap.size, 1, none⟩ = some (.int .i64 (plainS s).cores) := fun _ => Later.cell BP.out.lt BP.out.c1
            have zc9 : ∀ p : Later w5, p.now.cell? ⟨w2.heap.size, 2, none⟩ = some (.int .i64 (plainS s).gpus) := fun _ => Later.cell BP.out.lt BP.out.c2
            have zc10 : ∀ p : Later w5, p.now.cell? ⟨w2.heap.size, 3, none⟩ = some (.string (plainS s).tag) := fun _ => Later.cell BP.out.lt BP.out.c3
            have zc11 : ∀ p : Later w5, p.now.cell? ⟨w2.heap.size, 4, none⟩ = some (.bool (plainS s).whole) := fun _ => Later.cell BP.out.lt BP.out.c4
            have zc12 : ∀ p : Later w5, p.now.cell? ⟨w2.heap.size, 5, none⟩ = some (.int .i64 (plainS s).long) := fun _ => Later.cell BP.out.lt BP.out.c5
            have zc13 : ∀ p : Later w5, p.now.cell? ⟨w2.heap.size, 6, none⟩ = some (.int .i64 (plainS s).prio) := fun _ => Later.cell BP.out.lt BP.out.c6
            have zc14 : ∀ p : Later w5, p.now.cell? ⟨bl, ol + k, none⟩ = some (.int .i64 (x : Int)) := fun _ => Later.cell CL.out.lt CL.out.at'
            have zc15 : ∀ p : Later w5, p.now.cell? ⟨bg, og + x * 3 + 2, none⟩ = some (.string tx) := fun _ => Later.cell CT.out.lt CT.out.at'
            refine wp_region_later (by kernel_rfl) (by kernel_rfl) ?_
            repeat (first | go_big_quiet_skip | (go_big_quiet_want; go_big_quiet_op; first | go_big_quiet_on | (apply Exists.intro; refine ⟨fun pz => ?_, ?_⟩; (first | (go_at_call 18; exact Calls.later_of (s7_right HSP HS.out (HG.out.next pz.bel) RS.out)) | fail); go_big_quiet_on)))
            refine wpQuiet_nil ?_
            intro _ hw'
            obtain ⟨pz, rfl⟩ := hw'
            obtain ⟨w6, hb⟩ := pz
            try dsimp only
            clear zc0 zc1 zc2 zc3 zc4 zc5 zc6 zc7 zc8 zc9 zc10 zc11 zc12 zc13 zc14 zc15
            have HBq := Lib.hid (HB.out.trans (hb.mono HB.out.size))
            clear HB
            have HB := HBq
            clear HBq
            have HR1q := Lib.hid (HR1.out.trans (hb.mono HR1.out.size))
            clear HR1
            have HR1 := HR1q
            clear HR1q
            have HGq := Lib.hid (HG.out.next hb)
            clear HG
            have HG := HGq
            clear HGq
            have FGq := Lib.hid (FG.out.next hb)
            clear FG
            have FG := FGq
            clear FGq
            have FFq := Lib.hid (FF.out.next hb)
            clear FF
            have FF := FFq
            clear FFq
            have BXq := Lib.hid (BX.out.next hb)
            clear BX
            have BX := BXq
            clear BXq
            have BPq := Lib.hid (BP.out.next hb)
            clear BP
            have BP := BPq
            clear BPq
            have FLq := Lib.hid (FL.out.next hb)
            clear FL
            have FL := FLq
            clear FLq
            have CLq := Lib.hid (CL.out.next hb)
            clear CL
            have CL := CLq
            clear CLq
            have CTq := Lib.hid (CT.out.next hb)
            clear CT
            have CT := CTq
            clear CTq
            clear hb
            go_wp2
            go_roundw
            case rel => exact ⟨k + 1, by omega, by go_num, HR1.out⟩
            case measure => simp [intOf]; omega
    · have hkl : k = L.length := by omega
      have hm := many_plain (g := g) (F := F) (s := s)
      have hn0 := many_nodes (F := F) (s := s) HR.out
      rw [HL.out] at hn0
      obtain ⟨ms, e1⟩ : ∃ v, manyL g F s = v := ⟨_, rfl⟩
      obtain ⟨mp, e2⟩ : ∃ v, manyL g F (plainS s) = v := ⟨_, rfl⟩
      rw [e1] at hm hn0
      rw [e2] at hm
      have d1 : decide (ms ≤ mp) = true := decide_eq_true hm
      have d2 : decide (ms ≤ (L.length : Int)) = true := decide_eq_true hn0
      have E1 := Lib.hid e1
      have E2 := Lib.hid e2
      clear e1 e2 hm hn0
      go_wp2
      have zc0 : ∀ p : Later wr, p.now.cell? ⟨w.heap.size, 0, none⟩ = some (.int .i64 s.nodes) := fun _ => Later.cell BX.out.lt BX.out.c0
      have zc1 : ∀ p : Later wr, p.now.cell? ⟨w.heap.size, 1, none⟩ = some (.int .i64 s.cores) := fun _ => Later.cell BX.out.lt BX.out.c1
      have zc2 : ∀ p : Later wr, p.now.cell? ⟨w.heap.size, 2, none⟩ = some (.int .i64 s.gpus) := fun _ => Later.cell BX.out.lt BX.out.c2
      have zc3 : ∀ p : Later wr, p.now.cell? ⟨w.heap.size, 3, none⟩ = some (.string s.tag) := fun _ => Later.cell BX.out.lt BX.out.c3
      have zc4 : ∀ p : Later wr, p.now.cell? ⟨w.heap.size, 4, none⟩ = some (.bool s.whole) := fun _ => Later.cell BX.out.lt BX.out.c4
      have zc5 : ∀ p : Later wr, p.now.cell? ⟨w.heap.size, 5, none⟩ = some (.int .i64 s.long) := fun _ => Later.cell BX.out.lt BX.out.c5
      have zc6 : ∀ p : Later wr, p.now.cell? ⟨w.heap.size, 6, none⟩ = some (.int .i64 s.prio) := fun _ => Later.cell BX.out.lt BX.out.c6
      have zc7 : ∀ p : Later wr, p.now.cell? ⟨w2.heap.size, 0, none⟩ = some (.int .i64 (plainS s).nodes) := fun _ => Later.cell BP.out.lt BP.out.c0
      have zc8 : ∀ p : Later wr, p.now.cell? ⟨w2.heap.size, 1, none⟩ = some (.int .i64 (plainS s).cores) := fun _ => Later.cell BP.out.lt BP.out.c1
      have zc9 : ∀ p : Later wr, p.now.cell? ⟨w2.heap.size, 2, none⟩ = some (.int .i64 (plainS s).gpus) := fun _ => Later.cell BP.out.lt BP.out.c2
      have zc10 : ∀ p : Later wr, p.now.cell? ⟨w2.heap.size, 3, none⟩ = some (.string (plainS s).tag) := fun _ => Later.cell BP.out.lt BP.out.c3
      have zc11 : ∀ p : Later wr, p.now.cell? ⟨w2.heap.size, 4, none⟩ = some (.bool (plainS s).whole) := fun _ => Later.cell BP.out.lt BP.out.c4
      have zc12 : ∀ p : Later wr, p.now.cell? ⟨w2.heap.size, 5, none⟩ = some (.int .i64 (plainS s).long) := fun _ => Later.cell BP.out.lt BP.out.c5
      have zc13 : ∀ p : Later wr, p.now.cell? ⟨w2.heap.size, 6, none⟩ = some (.int .i64 (plainS s).prio) := fun _ => Later.cell BP.out.lt BP.out.c6
      refine wp_region_later (by kernel_rfl) (by kernel_rfl) ?_
      repeat (first | go_big_quiet_skip | (go_big_quiet_want; go_big_quiet_op; first | go_big_quiet_on | (apply Exists.intro; refine ⟨fun pz => ?_, ?_⟩; (first | (go_at_call 12; with_reducible exact Calls.later_of (m9_many H (FG.out.next pz.bel) (FF.out.next pz.bel) HS.out (HG.out.next pz.bel) E1.out)) | (go_at_call 12; with_reducible exact Calls.later_of (m9_many H (FG.out.next pz.bel) (FF.out.next pz.bel) HPS.out (HG.out.next pz.bel) E2.out)) | fail); go_big_quiet_on)))
      refine wpQuiet_nil ?_
      intro _ hw'
      obtain ⟨pz, rfl⟩ := hw'
      obtain ⟨w4, hb⟩ := pz
      try dsimp only
      clear zc0 zc1 zc2 zc3 zc4 zc5 zc6 zc7 zc8 zc9 zc10 zc11 zc12 zc13
      have HBq := Lib.hid (HB.out.trans (hb.mono HB.out.size))
      clear HB
      have HB := HBq
      clear HBq
      have HGq := Lib.hid (HG.out.next hb)
      clear HG
      have HG := HGq
      clear HGq
      have FGq := Lib.hid (FG.out.next hb)
      clear FG
      have FG := FGq
      clear FGq
      have FFq := Lib.hid (FF.out.next hb)
      clear FF
      have FF := FFq
      clear FFq
      have BXq := Lib.hid (BX.out.next hb)
      clear BX
      have BX := BXq
      clear BXq
      have BPq := Lib.hid (BP.out.next hb)
      clear BP
      have BP := BPq
      clear BPq
      have FLq := Lib.hid (FL.out.next hb)
      clear FL
      have FL := FLq
      clear FLq
      clear hb
      go_wp2
      go_ret
      exact ⟨rfl, HB.out⟩

theorem matchTags_walk (H : MatchOk) (GO : GraphOk) (HSP : SpecOk) (A : Option Addr) (n c : Nat) (A2 : Option Addr) (n2 c2 : Nat) (g : Gr) (F : List Int) (s : Sp) (w : World) (hr : RG w w.heap.size A n g) (hnil : A = none → c = 0) (hnc : n ≤ c) (hn : n ≤ maxLen) (hr2 : RI w w.heap.size A2 n2 F) (hj2 : ∀ x ∈ F, I64 x) (hnil2 : A2 = none → c2 = 0) (hnc2 : n2 ≤ c2) (hn2 : n2 ≤ maxLen) (hs : SAsk s) (hG : Glob w) :
    Calls Try.prog 4 #[.slice A n c, .slice A2 n2 c2, .agg #[.int .i64 s.nodes, .int .i64 s.cores, .int .i64 s.gpus, .string s.tag, .bool s.whole, .int .i64 s.long, .int .i64 s.prio]] w fun e w' => e = .returned (.bool true) ∧ Below w.heap.size w w' := by
  by_cases h60 : 60 < n
  · exact matchTags_l0 H GO A n c A2 n2 c2 s w h60 hn hG
  · by_cases h300 : 300 < n2
    · exact matchTags_l1 H GO A n c A2 n2 c2 s w h60 h300 hn2 hG
    · cases hrg : rightG g with
      | false => exact matchTags_no H GO HSP A n c A2 n2 c2 g F s w ⟨hr, hnil, hnc, by omega⟩ ⟨hr2, hnil2, hnc2, by omega, hj2⟩ hs h60 hG hrg
      | true => exact matchTags_yes H GO HSP A n c A2 n2 c2 g F s w ⟨hr, hnil, hnc, by omega⟩ ⟨hr2, hnil2, hnc2, by omega, hj2⟩ hs h60 hG hrg

end Go.Proofs.Ytglboolijhekkaa
