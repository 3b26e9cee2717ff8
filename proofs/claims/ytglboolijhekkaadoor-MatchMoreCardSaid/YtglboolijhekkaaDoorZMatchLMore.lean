/- The statement MatchMore, as a walk over the contracts: of any graph, two lists of numbers and two specs the call returns true. Written by gen/gen_matchmore.py. -/
import Derived.LoopTactic
import Derived.Test.YtglboolijhekkaaDoorMg05
namespace Go.Proofs.YtglboolijhekkaaDoor
open Go.RowKit

theorem right_nums {l : List Int} (h : rightB l = true) : l = numsF (fun k => hasB l (k : Int)) 256 := by
  refine right_ext h (numsF_right _ (Nat.le_refl _)) fun x => ?_
  rw [mem_numsF]
  constructor
  · intro hx
    have := right_mem h x hx
    exact ⟨x.toNat, by omega, by rw [has_iff h, Int.toNat_of_nonneg (by omega)]; exact hx, by omega⟩
  · rintro ⟨k, _, h2, rfl⟩
    exact (has_iff h).1 h2
theorem right_few {l : List Int} (h : rightB l = true) : l.length ≤ 256 := by rw [right_nums h]; exact numsF_len _ _
theorem right_int {l : List Int} (h : rightB l = true) : ∀ x ∈ l, I64 x := fun x hx => by have := right_mem h x hx; unfold I64; omega
theorem more_had {g : Gr} {F M : List Int} {s : Sp} (hF : rightB F = true) (hM : rightB M = true) (h : hadB g F s = true) : hadB g (joinL F M) s = true :=
  had_mono (right_joinL _ _) (fun x _ hx => by
    rw [has_iff (right_joinL _ _), mem_joinL hF hM]
    exact .inl ((has_iff hF).1 hx)) h
theorem more_many {g : Gr} {F M : List Int} {s : Sp} (hF : rightB F = true) (hM : rightB M = true) : manyL g F s ≤ manyL g (joinL F M) s := by
  unfold manyL
  by_cases h : mayB g F s = true
  · obtain ⟨h1, h2, h3⟩ := mayB_is h
    have h' : mayB g (joinL F M) s = true := by unfold mayB; rw [h1, right_joinL, h3]; rfl
    rw [if_pos h, if_pos h']
    have := many_mono (g := g) (F := F) (F' := joinL F M) (s := s) (fun x _ hx => by
      rw [has_iff (right_joinL _ _), mem_joinL hF hM]
      exact .inl ((has_iff hF).1 hx))
    omega
  · rw [if_neg h]
    split <;> omega
theorem left_suits {g : Gr} {F : List Int} {t : Sp} {x : Nat} {l : List Int} (hg : rightG g = true) (hF : rightB F = true) (hl : rightB l = true) (hx : x < g.length) (ha : apartB l (underL g (x : Int)) = true) : suitsL g (lessL F l) t (x : Int) = suitsL g F t (x : Int) := by
  rw [suitsL_is hx, suitsL_is hx, suit_left hg hF hx hl ha]
  unfold mayB
  rw [right_lessL, hF]
theorem node_i65 {g : Gr} (h : rightG g = true) {x : Nat} (hx : x < g.length) : I64 (x : Int) := i64_small (by have := (rightG_is h).few; omega)

set_option maxRecDepth 100000 in
set_option maxHeartbeats 8000000 in
theorem matchMore_l0 (H : MatchOk) (GO : GraphOk) (A : Option Addr) (n c : Nat) (A2 : Option Addr) (n2 c2 : Nat) (A3 : Option Addr) (n3 c3 : Nat) (s t : Sp) (w : World) (h60 : 60 < n) (_ : n ≤ maxLen) (hG : Glob w) :
    Calls Tryd.prog 4 #[.slice A n c, .slice A2 n2 c2, .slice A3 n3 c3, .agg #[.int .i64 s.nodes, .int .i64 s.cores, .int .i64 s.gpus, .string s.tag, .bool s.whole, .int .i64 s.long, .int .i64 s.prio], .agg #[.int .i64 t.nodes, .int .i64 t.cores, .int .i64 t.gpus, .string t.tag, .bool t.whole, .int .i64 t.long, .int .i64 t.prio]] w fun e w' => e = .returned (.bool true) ∧ Below w.heap.size w w' := by
  obtain ⟨W, hW⟩ : ∃ W, W = (w.alloc (spO s)).alloc (spO t) := ⟨_, rfl⟩
  have BX : Hid (BoxS W w.heap.size s) := Lib.hid (by rw [hW]; exact (box_new w s).alloc _)
  have BT : Hid (BoxS W (w.heap.size + 1) t) := Lib.hid (by
    have := box_new (w.alloc (spO s)) t
    rw [show (w.alloc (spO s)).heap.size = w.heap.size + 1 by simp] at this
    rw [hW]; exact this)
  have hb0 : Below w.heap.size w W := by rw [hW]; exact ((Below.refl _ _).alloc (Nat.le_refl _) _).alloc (by simp) _
  have HB := Lib.hid hb0
  have HG := Lib.hid (hG.next hb0)
  unfold spO at hW
  have h60d : decide ((60 : Int) < (n : Int)) = true := by simp; omega
  unfold maxLen at *
  clear hb0 hG BX BT
  go_enter Tryd.func4, Tryd.ntmps4
  go_wp2_with fail
  rw [← hW]
  refine (awake9_any H GO _ HG.out).mono ?_
  rintro e w1 ⟨rfl, hb⟩
  have HBq := Lib.hid (HB.out.trans (hb.mono HB.out.size))
  clear HB
  have HB := HBq
  clear HBq
  have HGq := Lib.hid (HG.out.next hb)
  clear HG
  have HG := HGq
  clear HGq
  clear hb
  go_wp2
  go_ret
  exact ⟨rfl, HB.out⟩

set_option maxRecDepth 100000 in
set_option maxHeartbeats 8000000 in
theorem matchMore_w1 (H : MatchOk) (GO : GraphOk) (A : Option Addr) (n c : Nat) (A2 : Option Addr) (n2 c2 : Nat) (A3 : Option Addr) (n3 c3 : Nat) (g : Gr) (F F3 : List Int) (s t : Sp) (w : World) (hg : GAsk w A n c g) (hf : WAsk w A2 n2 c2 F) (hm : WAsk w A3 n3 c3 F3) (h60 : ¬ 60 < n) (hG : Glob w) (h1 : rightB F = false) :
    Calls Tryd.prog 4 #[.slice A n c, .slice A2 n2 c2, .slice A3 n3 c3, .agg #[.int .i64 s.nodes, .int .i64 s.cores, .int .i64 s.gpus, .string s.tag, .bool s.whole, .int .i64 s.long, .int .i64 s.prio], .agg #[.int .i64 t.nodes, .int .i64 t.cores, .int .i64 t.gpus, .string t.tag, .bool t.whole, .int .i64 t.long, .int .i64 t.prio]] w fun e w' => e = .returned (.bool true) ∧ Below w.heap.size w w' := by
  have R1 := Lib.hid h1
  obtain ⟨W, hW⟩ : ∃ W, W = (w.alloc (spO s)).alloc (spO t) := ⟨_, rfl⟩
  have BX : Hid (BoxS W w.heap.size s) := Lib.hid (by rw [hW]; exact (box_new w s).alloc _)
  have BT : Hid (BoxS W (w.heap.size + 1) t) := Lib.hid (by
    have := box_new (w.alloc (spO s)) t
    rw [show (w.alloc (spO s)).heap.size = w.heap.size + 1 by simp] at this
    rw [hW]; exact this)
  have hb0 : Below w.heap.size w W := by rw [hW]; exact ((Below.refl _ _).alloc (Nat.le_refl _) _).alloc (by simp) _
  have HB := Lib.hid hb0
  have HG := Lib.hid (hG.next hb0)
  unfold spO at hW
  have h60d : decide ((60 : Int) < (n : Int)) = false := by simp; omega
  have FG := Lib.hid (hg.next hb0)
  have FF := Lib.hid (hf.next hb0)
  have FM := Lib.hid (hm.next hb0)
  clear hb0 hG BX BT hg hf hm h60 h1
  go_enter Tryd.func4, Tryd.ntmps4
  go_wp2_with fail
  rw [← hW]
  refine (awake9_any H GO _ HG.out).mono ?_
  rintro e w1 ⟨rfl, hb⟩
  have HBq := Lib.hid (HB.out.trans (hb.mono HB.out.size))
  clear HB
  have HB := HBq
  clear HBq
  have HGq := Lib.hid (HG.out.next hb)
  clear HG
  have HG := HGq
  clear HGq
  have FGq := Lib.hid (FG.out.next hb)
  clear FG
  have FG := FGq
  clear FGq
  have FFq := Lib.hid (FF.out.next hb)
  clear FF
  have FF := FFq
  clear FFq
  have FMq := Lib.hid (FM.out.next hb)
  clear FM
  have FM := FMq
  clear FMq
  clear hb
  clear hW
  go_wp2_with fail
  refine (s_isSet FF.out.reads FF.out.few R1.out).mono ?_
  rintro e w2 ⟨rfl, hb⟩
  have HBq := Lib.hid (HB.out.trans (hb.mono HB.out.size))
  clear HB
  have HB := HBq
  clear HBq
  have HGq := Lib.hid (HG.out.next hb)
  clear HG
  have HG := HGq
  clear HGq
  have FGq := Lib.hid (FG.out.next hb)
  clear FG
  have FG := FGq
  clear FGq
  have FFq := Lib.hid (FF.out.next hb)
  clear FF
  have FF := FFq
  clear FFq
  have FMq := Lib.hid (FM.out.next hb)
  clear FM
  have FM := FMq
  clear FMq
  clear hb
  go_wp2
  go_ret
  exact ⟨rfl, HB.out⟩

set_option maxRecDepth 100000 in
set_option maxHeartbeats 8000000 in
theorem matchMore_w2 (H : MatchOk) (GO : GraphOk) (A : Option Addr) (n c : Nat) (A2 : Option Addr) (n2 c2 : Nat) (A3 : Option Addr) (n3 c3 : Nat) (g : Gr) (F F3 : List Int) (s t : Sp) (w : World) (hg : GAsk w A n c g) (hf : WAsk w A2 n2 c2 F) (hm : WAsk w A3 n3 c3 F3) (h60 : ¬ 60 < n) (hG : Glob w) (h1 : rightB F = true) (h2 : rightB F3 = false) :
    Calls Tryd.prog 4 #[.slice A n c, .slice A2 n2 c2, .slice A3 n3 c3, .agg #[.int .i64 s.nodes, .int .i64 s.cores, .int .i64 s.gpus, .string s.tag, .bool s.whole, .int .i64 s.long, .int .i64 s.prio], .agg #[.int .i64 t.nodes, .int .i64 t.cores, .int .i64 t.gpus, .string t.tag, .bool t.whole, .int .i64 t.long, .int .i64 t.prio]] w fun e w' => e = .returned (.bool true) ∧ Below w.heap.size w w' := by
  have R1 := Lib.hid h1
  have R2 := Lib.hid h2
  obtain ⟨W, hW⟩ : ∃ W, W = (w.alloc (spO s)).alloc (spO t) := ⟨_, rfl⟩
  have BX : Hid (BoxS W w.heap.size s) := Lib.hid (by rw [hW]; exact (box_new w s).alloc _)
  have BT : Hid (BoxS W (w.heap.size + 1) t) := Lib.hid (by
    have := box_new (w.alloc (spO s)) t
    rw [show (w.alloc (spO s)).heap.size = w.heap.size + 1 by simp] at this
    rw [hW]; exact this)
  have hb0 : Below w.heap.size w W := by rw [hW]; exact ((Below.refl _ _).alloc (Nat.le_refl _) _).alloc (by simp) _
  have HB := Lib.hid hb0
  have HG := Lib.hid (hG.next hb0)
  unfold spO at hW
  have h60d : decide ((60 : Int) < (n : Int)) = false := by simp; omega
  have FG := Lib.hid (hg.next hb0)
  have FF := Lib.hid (hf.next hb0)
  have FM := Lib.hid (hm.next hb0)
  clear hb0 hG BX BT hg hf hm h60 h1 h2
  go_enter Tryd.func4, Tryd.ntmps4
  go_wp2_with fail
  rw [← hW]
  refine (awake9_any H GO _ HG.out).mono ?_
  rintro e w1 ⟨rfl, hb⟩
  have HBq := Lib.hid (HB.out.trans (hb.mono HB.out.size))
  clear HB
  have HB := HBq
  clear HBq
  have HGq := Lib.hid (HG.out.next hb)
  clear HG
  have HG := HGq
  clear HGq
  have FGq := Lib.hid (FG.out.next hb)
  clear FG
  have FG := FGq
  clear FGq
  have FFq := Lib.hid (FF.out.next hb)
  clear FF
  have FF := FFq
  clear FFq
  have FMq := Lib.hid (FM.out.next hb)
  clear FM
  have FM := FMq
  clear FMq
  clear hb
  clear hW
  go_wp2_with fail
  refine (s_isSet FF.out.reads FF.out.few R1.out).mono ?_
  rintro e w2 ⟨rfl, hb⟩
  have HBq := Lib.hid (HB.out.trans (hb.mono HB.out.size))
  clear HB
  have HB := HBq
  clear HBq
  have HGq := Lib.hid (HG.out.next hb)
  clear HG
  have HG := HGq
  clear HGq
  have FGq := Lib.hid (FG.out.next hb)
  clear FG
  have FG := FGq
  clear FGq
  have FFq := Lib.hid (FF.out.next hb)
  clear FF
  have FF := FFq
  clear FFq
  have FMq := Lib.hid (FM.out.next hb)
  clear FM
  have FM := FMq
  clear FMq
  clear hb
  go_wp2_with fail
  refine (s_isSet FM.out.reads FM.out.few R2.out).mono ?_
  rintro e w3 ⟨rfl, hb⟩
  have HBq := Lib.hid (HB.out.trans (hb.mono HB.out.size))
  clear HB
  have HB := HBq
  clear HBq
  have HGq := Lib.hid (HG.out.next hb)
  clear HG
  have HG := HGq
  clear HGq
  have FGq := Lib.hid (FG.out.next hb)
  clear FG
  have FG := FGq
  clear FGq
  have FFq := Lib.hid (FF.out.next hb)
  clear FF
  have FF := FFq
  clear FFq
  have FMq := Lib.hid (FM.out.next hb)
  clear FM
  have FM := FMq
  clear FMq
  clear hb
  go_wp2
  go_ret
  exact ⟨rfl, HB.out⟩

set_option maxRecDepth 100000 in
set_option maxHeartbeats 8000000 in
theorem matchMore_w3 (H : MatchOk) (GO : GraphOk) (A : Option Addr) (n c : Nat) (A2 : Option Addr) (n2 c2 : Nat) (A3 : Option Addr) (n3 c3 : Nat) (g : Gr) (F F3 : List Int) (s t : Sp) (w : World) (hg : GAsk w A n c g) (hf : WAsk w A2 n2 c2 F) (hm : WAsk w A3 n3 c3 F3) (h60 : ¬ 60 < n) (hG : Glob w) (h1 : rightB F = true) (h2 : rightB F3 = true) (h3 : rightG g = false) :
    Calls Tryd.prog 4 #[.slice A n c, .slice A2 n2 c2, .slice A3 n3 c3, .agg #[.int .i64 s.nodes, .int .i64 s.cores, .int .i64 s.gpus, .string s.tag, .bool s.whole, .int .i64 s.long, .int .i64 s.prio], .agg #[.int .i64 t.nodes, .int .i64 t.cores, .int .i64 t.gpus, .string t.tag, .bool t.whole, .int .i64 t.long, .int .i64 t.prio]] w fun e w' => e = .returned (.bool true) ∧ Below w.heap.size w w' := by
  have R1 := Lib.hid h1
  have R2 := Lib.hid h2
  have R3 := Lib.hid h3
  obtain ⟨W, hW⟩ : ∃ W, W = (w.alloc (spO s)).alloc (spO t) := ⟨_, rfl⟩
  have BX : Hid (BoxS W w.heap.size s) := Lib.hid (by rw [hW]; exact (box_new w s).alloc _)
  have BT : Hid (BoxS W (w.heap.size + 1) t) := Lib.hid (by
    have := box_new (w.alloc (spO s)) t
    rw [show (w.alloc (spO s)).heap.size = w.heap.size + 1 by simp] at this
    rw [hW]; exact this)
  have hb0 : Below w.heap.size w W := by rw [hW]; exact ((Below.refl _ _).alloc (Nat.le_refl _) _).alloc (by simp) _
  have HB := Lib.hid hb0
  have HG := Lib.hid (hG.next hb0)
  unfold spO at hW
  have h60d : decide ((60 : Int) < (n : Int)) = false := by simp; omega
  have FG := Lib.hid (hg.next hb0)
  have FF := Lib.hid (hf.next hb0)
  have FM := Lib.hid (hm.next hb0)
  clear hb0 hG BX BT hg hf hm h60 h1 h2 h3
  go_enter Tryd.func4, Tryd.ntmps4
  go_wp2_with fail
  rw [← hW]
  refine (awake9_any H GO _ HG.out).mono ?_
  rintro e w1 ⟨rfl, hb⟩
  have HBq := Lib.hid (HB.out.trans (hb.mono HB.out.size))
  clear HB
  have HB := HBq
  clear HBq
  have HGq := Lib.hid (HG.out.next hb)
  clear HG
  have HG := HGq
  clear HGq
  have FGq := Lib.hid (FG.out.next hb)
  clear FG
  have FG := FGq
  clear FGq
  have FFq := Lib.hid (FF.out.next hb)
  clear FF
  have FF := FFq
  clear FFq
  have FMq := Lib.hid (FM.out.next hb)
  clear FM
  have FM := FMq
  clear FMq
  clear hb
  clear hW
  go_wp2_with fail
  refine (s_isSet FF.out.reads FF.out.few R1.out).mono ?_
  rintro e w2 ⟨rfl, hb⟩
  have HBq := Lib.hid (HB.out.trans (hb.mono HB.out.size))
  clear HB
  have HB := HBq
  clear HBq
  have HGq := Lib.hid (HG.out.next hb)
  clear HG
  have HG := HGq
  clear HGq
  have FGq := Lib.hid (FG.out.next hb)
  clear FG
  have FG := FGq
  clear FGq
  have FFq := Lib.hid (FF.out.next hb)
  clear FF
  have FF := FFq
  clear FFq
  have FMq := Lib.hid (FM.out.next hb)
  clear FM
  have FM := FMq
  clear FMq
  clear hb
  go_wp2_with fail
  refine (s_isSet FM.out.reads FM.out.few R2.out).mono ?_
  rintro e w3 ⟨rfl, hb⟩
  have HBq := Lib.hid (HB.out.trans (hb.mono HB.out.size))
  clear HB
  have HB := HBq
  clear HBq
  have HGq := Lib.hid (HG.out.next hb)
  clear HG
  have HG := HGq
  clear HGq
  have FGq := Lib.hid (FG.out.next hb)
  clear FG
  have FG := FGq
  clear FGq
  have FFq := Lib.hid (FF.out.next hb)
  clear FF
  have FF := FFq
  clear FFq
  have FMq := Lib.hid (FM.out.next hb)
  clear FM
  have FM := FMq
  clear FMq
  clear hb
  go_wp2_with fail
  refine (calls_bool (GO.right _ _ _ _ _ FG.out HG.out) R3.out).mono ?_
  rintro e w4 ⟨rfl, hb⟩
  have HBq := Lib.hid (HB.out.trans (hb.mono HB.out.size))
  clear HB
  have HB := HBq
  clear HBq
  have HGq := Lib.hid (HG.out.next hb)
  clear HG
  have HG := HGq
  clear HGq
  have FGq := Lib.hid (FG.out.next hb)
  clear FG
  have FG := FGq
  clear FGq
  have FFq := Lib.hid (FF.out.next hb)
  clear FF
  have FF := FFq
  clear FFq
  have FMq := Lib.hid (FM.out.next hb)
  clear FM
  have FM := FMq
  clear FMq
  clear hb
  go_wp2
  go_ret
  exact ⟨rfl, HB.out⟩

set_option maxRecDepth 100000 in
set_option maxHeartbeats 8000000 in
theorem matchMore_m0 (H : MatchOk) (GO : GraphOk) (A : Option Addr) (n c : Nat) (A2 : Option Addr) (n2 c2 : Nat) (A3 : Option Addr) (n3 c3 : Nat) (g : Gr) (F F3 : List Int) (s t : Sp) (w : World) (hg : GAsk w A n c g) (hf : LAsk w A2 n2 c2 F) (hm : LAsk w A3 n3 c3 F3) (hs : SAsk s) (ht : SAsk t) (h60 : ¬ 60 < n) (hG : Glob w) (h1 : rightB F = true) (h2 : rightB F3 = true) (h3 : rightG g = true) (hb : hadB g F s = false) :
    Calls Tryd.prog 4 #[.slice A n c, .slice A2 n2 c2, .slice A3 n3 c3, .agg #[.int .i64 s.nodes, .int .i64 s.cores, .int .i64 s.gpus, .string s.tag, .bool s.whole, .int .i64 s.long, .int .i64 s.prio], .agg #[.int .i64 t.nodes, .int .i64 t.cores, .int .i64 t.gpus, .string t.tag, .bool t.whole, .int .i64 t.long, .int .i64 t.prio]] w fun e w' => e = .returned (.bool true) ∧ Below w.heap.size w w' := by
  have hJ := right_joinL F F3
  have hm12 := more_many (g := g) (s := s) h1 h2
  have hmore := more_had (g := g) (s := s) h1 h2
  have R1 := Lib.hid h1
  have R2 := Lib.hid h2
  have R3 := Lib.hid h3
  have hlr := findL_right (F := F) (s := s) h3
  have HLR0 := Lib.hid hlr
  have hxap := fun h => left_apart (g := g) (t := t) h1 hlr h
  have hln := right_few hlr
  have hli := right_int hlr
  have hxr := right_lessL F (findL g F s)
  have hyr := findL_right (F := lessL F (findL g F s)) (s := t) h3
  obtain ⟨l, e1⟩ : ∃ r, findL g F s = r := ⟨_, rfl⟩
  rw [e1] at hlr hln hli hxr hyr hxap
  have HLR := Lib.hid hlr
  clear HLR0
  obtain ⟨J, hj⟩ : ∃ r, joinL F F3 = r := ⟨_, rfl⟩
  rw [hj] at hJ hm12 hmore
  obtain ⟨X, hx⟩ : ∃ r, lessL F l = r := ⟨_, rfl⟩
  rw [hx] at hxr hyr hxap
  obtain ⟨Y, e7⟩ : ∃ r, findL g X t = r := ⟨_, rfl⟩
  rw [e7] at hyr hxap
  obtain ⟨b3, e8⟩ : ∃ r, hadB g X t = r := ⟨_, rfl⟩
  rw [e8] at hxap
  obtain ⟨l2, e3⟩ : ∃ r, findL g J s = r := ⟨_, rfl⟩
  obtain ⟨b2, e4⟩ : ∃ r, hadB g J s = r := ⟨_, rfl⟩
  obtain ⟨m1, e5⟩ : ∃ r, manyL g F s = r := ⟨_, rfl⟩
  obtain ⟨m2, e6⟩ : ∃ r, manyL g J s = r := ⟨_, rfl⟩
  rw [e4] at hmore
  rw [e5, e6] at hm12
  have dm : decide (m2 < m1) = false := decide_eq_false (by omega)
  have HLN := Lib.hid hln
  have HLI := Lib.hid hli
  have HJ := Lib.hid hj
  have HJN := Lib.hid (right_few hJ)
  have HJI := Lib.hid (right_int hJ)
  have HX := Lib.hid hx
  have HXN := Lib.hid (right_few hxr)
  have HXI2 := Lib.hid (right_int hxr)
  have HYN := Lib.hid (right_few hyr)
  have HYI := Lib.hid (right_int hyr)
  have HAP := Lib.hid hxap
  have E1 := Lib.hid e1
  have E2 := Lib.hid hb
  have E3 := Lib.hid e3
  have E5 := Lib.hid e5
  have E6 := Lib.hid e6
  have E7 := Lib.hid e7
  have E8 := Lib.hid e8
  have hnn := nodesL_len (g := g)
  have hni := nodesL_i64 (g := g)
  obtain ⟨L, hL⟩ : ∃ L, nodesL g = L := ⟨_, rfl⟩
  rw [hL] at hnn hni
  have HNN := Lib.hid hnn
  have HNI := Lib.hid hni
  have HL := Lib.hid hL
  have HS := Lib.hid hs
  have HT := Lib.hid ht
  have E4 := Lib.hid e4
  obtain ⟨W, hW⟩ : ∃ W, W = (w.alloc (spO s)).alloc (spO t) := ⟨_, rfl⟩
  have BX : Hid (BoxS W w.heap.size s) := Lib.hid (by rw [hW]; exact (box_new w s).alloc _)
  have BT : Hid (BoxS W (w.heap.size + 1) t) := Lib.hid (by
    have := box_new (w.alloc (spO s)) t
    rw [show (w.alloc (spO s)).heap.size = w.heap.size + 1 by simp] at this
    rw [hW]; exact this)
  have hb0 : Below w.heap.size w W := by rw [hW]; exact ((Below.refl _ _).alloc (Nat.le_refl _) _).alloc (by simp) _
  have HB := Lib.hid hb0
  have HG := Lib.hid (hG.next hb0)
  have h60d : decide ((60 : Int) < (n : Int)) = false := by simp; omega
  have FG := Lib.hid (hg.next hb0)
  have FF := Lib.hid (hf.next hb0)
  have FM := Lib.hid (hm.next hb0)
  unfold spO at hW
  clear hb0 hG hg hf hm h60 h1 h2 h3 hb hJ hm12 hmore hlr hln hli hxr hyr hxap e1 hj hx e7 e8 e3 e4 e5 e6 hnn hni hL hs ht
  go_enter Tryd.func4, Tryd.ntmps4
  go_wp2_with fail
  rw [← hW]
  refine (awake9_any H GO _ HG.out).mono ?_
  rintro e w1 ⟨rfl, hb⟩
  have HBq := Lib.hid (HB.out.trans (hb.mono HB.out.size))
  clear HB
  have HB := HBq
  clear HBq
  have HGq := Lib.hid (HG.out.next hb)
  clear HG
  have HG := HGq
  clear HGq
  have FGq := Lib.hid (FG.out.next hb)
  clear FG
  have FG := FGq
  clear FGq
  have FFq := Lib.hid (FF.out.next hb)
  clear FF
  have FF := FFq
  clear FFq
  have FMq := Lib.hid (FM.out.next hb)
  clear FM
  have FM := FMq
  clear FMq
  have BXq := Lib.hid (BX.out.next hb)
  clear BX
  have BX := BXq
  clear BXq
  have BTq := Lib.hid (BT.out.next hb)
  clear BT
  have BT := BTq
  clear BTq
  clear hb
  clear hW
  go_wp2_with fail
  refine (s_isSet FF.out.reads (ml300 FF.out.few) R1.out).mono ?_
  rintro e w2 ⟨rfl, hb⟩
  have HBq := Lib.hid (HB.out.trans (hb.mono HB.out.size))
  clear HB
  have HB := HBq
  clear HBq
  have HGq := Lib.hid (HG.out.next hb)
  clear HG
  have HG := HGq
  clear HGq
  have FGq := Lib.hid (FG.out.next hb)
  clear FG
  have FG := FGq
  clear FGq
  have FFq := Lib.hid (FF.out.next hb)
  clear FF
  have FF := FFq
  clear FFq
  have FMq := Lib.hid (FM.out.next hb)
  clear FM
  have FM := FMq
  clear FMq
  have BXq := Lib.hid (BX.out.next hb)
  clear BX
  have BX := BXq
  clear BXq
  have BTq := Lib.hid (BT.out.next hb)
  clear BT
  have BT := BTq
  clear BTq
  clear hb
  go_wp2_with fail
  refine (s_isSet FM.out.reads (ml300 FM.out.few) R2.out).mono ?_
  rintro e w3 ⟨rfl, hb⟩
  have HBq := Lib.hid (HB.out.trans (hb.mono HB.out.size))
  clear HB
  have HB := HBq
  clear HBq
  have HGq := Lib.hid (HG.out.next hb)
  clear HG
  have HG := HGq
  clear HGq
  have FGq := Lib.hid (FG.out.next hb)
  clear FG
  have FG := FGq
  clear FGq
  have FFq := Lib.hid (FF.out.next hb)
  clear FF
  have FF := FFq
  clear FFq
  have FMq := Lib.hid (FM.out.next hb)
  clear FM
  have FM := FMq
  clear FMq
  have BXq := Lib.hid (BX.out.next hb)
  clear BX
  have BX := BXq
  clear BXq
  have BTq := Lib.hid (BT.out.next hb)
  clear BT
  have BT := BTq
  clear BTq
  clear hb
  go_wp2_with fail
  refine (calls_bool (GO.right _ _ _ _ _ FG.out HG.out) R3.out).mono ?_
  rintro e w4 ⟨rfl, hb⟩
  have HBq := Lib.hid (HB.out.trans (hb.mono HB.out.size))
  clear HB
  have HB := HBq
  clear HBq
  have HGq := Lib.hid (HG.out.next hb)
  clear HG
  have HG := HGq
  clear HGq
  have FGq := Lib.hid (FG.out.next hb)
  clear FG
  have FG := FGq
  clear FGq
  have FFq := Lib.hid (FF.out.next hb)
  clear FF
  have FF := FFq
  clear FFq
  have FMq := Lib.hid (FM.out.next hb)
  clear FM
  have FM := FMq
  clear FMq
  have BXq := Lib.hid (BX.out.next hb)
  clear BX
  have BX := BXq
  clear BXq
  have BTq := Lib.hid (BT.out.next hb)
  clear BT
  have BT := BTq
  clear BTq
  clear hb
  have q0 := BX.out.c0
  have q1 := BX.out.c1
  have q2 := BX.out.c2
  have q3 := BX.out.c3
  have q4 := BX.out.c4
  have q5 := BX.out.c5
  have q6 := BX.out.c6
  go_wp2_with fail
  refine (m9_find H FG.out FF.out HS.out HG.out E1.out E2.out).mono ?_
  rintro e w5 ⟨⟨A5, c5, rfl, hr5, hnil5, hc5⟩, hb⟩
  have HBq := Lib.hid (HB.out.trans (hb.mono HB.out.size))
  clear HB
  have HB := HBq
  clear HBq
  have HGq := Lib.hid (HG.out.next hb)
  clear HG
  have HG := HGq
  clear HGq
  have FGq := Lib.hid (FG.out.next hb)
  clear FG
  have FG := FGq
  clear FGq
  have FFq := Lib.hid (FF.out.next hb)
  clear FF
  have FF := FFq
  clear FFq
  have FMq := Lib.hid (FM.out.next hb)
  clear FM
  have FM := FMq
  clear FMq
  have BXq := Lib.hid (BX.out.next hb)
  clear BX
  have BX := BXq
  clear BXq
  have BTq := Lib.hid (BT.out.next hb)
  clear BT
  have BT := BTq
  clear BTq
  clear hb
  have FL := Lib.hid (LAsk.mk hr5 hnil5 hc5 (by have := HLN.out; omega) HLI.out)
  clear hr5 hnil5 hc5
  clear q0 q1 q2 q3 q4 q5 q6
  go_wp2
  have HKEEP : Hid (∀ wx, Below w5.drew.heap.size w5.drew wx → wx.cell? ⟨w.heap.size, 0, none⟩ = some (.int .i64 s.nodes) ∧ wx.cell? ⟨w.heap.size, 1, none⟩ = some (.int .i64 s.cores) ∧ wx.cell? ⟨w.heap.size, 2, none⟩ = some (.int .i64 s.gpus) ∧ wx.cell? ⟨w.heap.size, 3, none⟩ = some (.string s.tag) ∧ wx.cell? ⟨w.heap.size, 4, none⟩ = some (.bool s.whole) ∧ wx.cell? ⟨w.heap.size, 5, none⟩ = some (.int .i64 s.long) ∧ wx.cell? ⟨w.heap.size, 6, none⟩ = some (.int .i64 s.prio)) := Lib.hid (fun wx hz' => by
    have hz := (bel_drew1 w5).trans (hz'.mono (bel_drew1 w5).size)
    exact ⟨keep_cell BX.out.lt BX.out.c0 hz, keep_cell BX.out.lt BX.out.c1 hz, keep_cell BX.out.lt BX.out.c2 hz, keep_cell BX.out.lt BX.out.c3 hz, keep_cell BX.out.lt BX.out.c4 hz, keep_cell BX.out.lt BX.out.c5 hz, keep_cell BX.out.lt BX.out.c6 hz⟩)
  have hd := bel_drew1 w5
  have HBq := Lib.hid (HB.out.trans (hd.mono HB.out.size))
  clear HB
  have HB := HBq
  clear HBq
  have HGq := Lib.hid (HG.out.next hd)
  clear HG
  have HG := HGq
  clear HGq
  have FGq := Lib.hid (FG.out.next hd)
  clear FG
  have FG := FGq
  clear FGq
  have FFq := Lib.hid (FF.out.next hd)
  clear FF
  have FF := FFq
  clear FFq
  have FMq := Lib.hid (FM.out.next hd)
  clear FM
  have FM := FMq
  clear FMq
  have BXq := Lib.hid (BX.out.next hd)
  clear BX
  have BX := BXq
  clear BXq
  have BTq := Lib.hid (BT.out.next hd)
  clear BT
  have BT := BTq
  clear BTq
  have FLq := Lib.hid (FL.out.next hd)
  clear FL
  have FL := FLq
  clear FLq
  clear hd
  have HY := Lib.hid (Below.refl w5.drew.heap.size w5.drew)
  go_region_held3 (fun w' => w'.cell? ⟨w.heap.size, 0, none⟩ = some (.int .i64 s.nodes) ∧ w'.cell? ⟨w.heap.size, 1, none⟩ = some (.int .i64 s.cores) ∧ w'.cell? ⟨w.heap.size, 2, none⟩ = some (.int .i64 s.gpus) ∧ w'.cell? ⟨w.heap.size, 3, none⟩ = some (.string s.tag) ∧ w'.cell? ⟨w.heap.size, 4, none⟩ = some (.bool s.whole) ∧ w'.cell? ⟨w.heap.size, 5, none⟩ = some (.int .i64 s.long) ∧ w'.cell? ⟨w.heap.size, 6, none⟩ = some (.int .i64 s.prio))
    (first | exact HKEEP.out _ (Below.refl _ _) | exact HKEEP.out _ HY.out | go_keep | fail)
    (first | (go_at_call 18; (with_reducible refine (calls_ipost (s_join (w := w5.drew) FF.out.reads FM.out.reads (ml300 FF.out.few) (ml300 FM.out.few) HG.out) HJ.out).mono ?_); rintro e w6 ⟨⟨Aj, cj, rfl, hrj, hnilj, hcj⟩, hb⟩; have HY := Lib.hid (HY.out.trans (hb.mono HY.out.size)); have HB := Lib.hid (HB.out.trans (hb.mono HB.out.size)); have HG := Lib.hid (HG.out.next hb); have FG := Lib.hid (FG.out.next hb); have FF := Lib.hid (FF.out.next hb); have FM := Lib.hid (FM.out.next hb); have BX := Lib.hid (BX.out.next hb); have BT := Lib.hid (BT.out.next hb); have FL := Lib.hid (FL.out.next hb); have FJ := Lib.hid (LAsk.mk hrj hnilj hcj (by have := HJN.out; omega) HJI.out); clear hb) | (go_at_call 6; (with_reducible refine (m9_find (w := w6) H FG.out FJ.out HS.out HG.out E3.out E4.out).mono ?_); rintro e w7 ⟨⟨Ak, ck, rfl, hrk, hnilk, hck⟩, hb⟩; have HY := Lib.hid (HY.out.trans (hb.mono HY.out.size)); have HB := Lib.hid (HB.out.trans (hb.mono HB.out.size)); have HG := Lib.hid (HG.out.next hb); have FG := Lib.hid (FG.out.next hb); have FF := Lib.hid (FF.out.next hb); have FM := Lib.hid (FM.out.next hb); have BX := Lib.hid (BX.out.next hb); have BT := Lib.hid (BT.out.next hb); have FL := Lib.hid (FL.out.next hb); have FJ := Lib.hid (FJ.out.next hb); clear hb) | fail)
  clear HKEEP HY
  clear FJ
  go_wp2
  have HKEEP : Hid (∀ wx, Below w7.drew.heap.size w7.drew wx → wx.cell? ⟨w.heap.size, 0, none⟩ = some (.int .i64 s.nodes) ∧ wx.cell? ⟨w.heap.size, 1, none⟩ = some (.int .i64 s.cores) ∧ wx.cell? ⟨w.heap.size, 2, none⟩ = some (.int .i64 s.gpus) ∧ wx.cell? ⟨w.heap.size, 3, none⟩ = some (.string s.tag) ∧ wx.cell? ⟨w.heap.size, 4, none⟩ = some (.bool s.whole) ∧ wx.cell? ⟨w.heap.size, 5, none⟩ = some (.int .i64 s.long) ∧ wx.cell? ⟨w.heap.size, 6, none⟩ = some (.int .i64 s.prio)) := Lib.hid (fun wx hz' => by
    have hz := (bel_drew1 w7).trans (hz'.mono (bel_drew1 w7).size)
    exact ⟨keep_cell BX.out.lt BX.out.c0 hz, keep_cell BX.out.lt BX.out.c1 hz, keep_cell BX.out.lt BX.out.c2 hz, keep_cell BX.out.lt BX.out.c3 hz, keep_cell BX.out.lt BX.out.c4 hz, keep_cell BX.out.lt BX.out.c5 hz, keep_cell BX.out.lt BX.out.c6 hz⟩)
  have hd := bel_drew1 w7
  have HBq := Lib.hid (HB.out.trans (hd.mono HB.out.size))
  clear HB
  have HB := HBq
  clear HBq
  have HGq := Lib.hid (HG.out.next hd)
  clear HG
  have HG := HGq
  clear HGq
  have FGq := Lib.hid (FG.out.next hd)
  clear FG
  have FG := FGq
  clear FGq
  have FFq := Lib.hid (FF.out.next hd)
  clear FF
  have FF := FFq
  clear FFq
  have FMq := Lib.hid (FM.out.next hd)
  clear FM
  have FM := FMq
  clear FMq
  have BXq := Lib.hid (BX.out.next hd)
  clear BX
  have BX := BXq
  clear BXq
  have BTq := Lib.hid (BT.out.next hd)
  clear BT
  have BT := BTq
  clear BTq
  have FLq := Lib.hid (FL.out.next hd)
  clear FL
  have FL := FLq
  clear FLq
  clear hd
  have HY := Lib.hid (Below.refl w7.drew.heap.size w7.drew)
  refine wp_region_held_drew (S := fun w' => w'.cell? ⟨w.heap.size, 0, none⟩ = some (.int .i64 s.nodes) ∧ w'.cell? ⟨w.heap.size, 1, none⟩ = some (.int .i64 s.cores) ∧ w'.cell? ⟨w.heap.size, 2, none⟩ = some (.int .i64 s.gpus) ∧ w'.cell? ⟨w.heap.size, 3, none⟩ = some (.string s.tag) ∧ w'.cell? ⟨w.heap.size, 4, none⟩ = some (.bool s.whole) ∧ w'.cell? ⟨w.heap.size, 5, none⟩ = some (.int .i64 s.long) ∧ w'.cell? ⟨w.heap.size, 6, none⟩ = some (.int .i64 s.prio)) (by kernel_rfl) (HKEEP.out _ (Below.refl _ _)) (fun hHeld => ?_)
  refine wpAnyH_take (i := 0) (oi := ?oi1) (v := ?v1) ?hi1 (by kernel_rfl) (by kernel_rfl) (by kernel_rfl) ?hq1 ?hy1 hHeld ?rest1
  case hi1 => (simp only [List.getElem?_toArray, List.getElem?_cons_zero]; rfl)
  case hy1 => (refine Or.inl ⟨by rfl, ?_⟩; intro w hSw; (try dsimp only at hSw); go_simp; try with_reducible rfl)
  case hq1 => exact fun _ _ _ h => h
  try simp only [Act.put, List.setIfInBounds_toArray, List.set_cons_zero, List.set_cons_succ]
  refine wpAnyH_take (i := 1) (oi := ?oi2) (v := ?v2) ?hi2 (by kernel_rfl) (by kernel_rfl) (by kernel_rfl) ?hq2 ?hy2 hHeld ?rest2
  case hi2 => (simp only [List.getElem?_toArray, List.getElem?_cons_succ, List.getElem?_cons_zero]; rfl)
  case hy2 => (refine Or.inl ⟨by rfl, ?_⟩; intro w hSw; (try dsimp only at hSw); go_simp; try with_reducible rfl)
  case hq2 => exact fun _ _ _ h => h
  try simp only [Act.put, List.setIfInBounds_toArray, List.set_cons_zero, List.set_cons_succ]
  refine wpAnyH_take (i := 2) (oi := ?oi3) (v := undef) ?hi3 (by kernel_rfl) (by kernel_rfl) (by kernel_rfl) ?hq3 ?hy3 hHeld ?rest3
  case hi3 => (simp only [List.getElem?_toArray, List.getElem?_cons_succ, List.getElem?_cons_zero]; rfl)
  case hy3 => exact Or.inr ⟨by rfl, rfl⟩
  case hq3 => exact fun _ _ _ h => h
  try simp only [Act.put, List.setIfInBounds_toArray, List.set_cons_zero, List.set_cons_succ]
  refine wpAnyH_take (i := 3) (oi := ?oi4) (v := undef) ?hi4 (by kernel_rfl) (by kernel_rfl) (by kernel_rfl) ?hq4 ?hy4 hHeld ?rest4
  case hi4 => (simp only [List.getElem?_toArray, List.getElem?_cons_succ, List.getElem?_cons_zero]; rfl)
  case hy4 => exact Or.inr ⟨by rfl, rfl⟩
  case hq4 => exact fun _ _ _ h => h
  try simp only [Act.put, List.setIfInBounds_toArray, List.set_cons_zero, List.set_cons_succ]
  refine wpAnyH_take (i := 4) (oi := ?oi5) (v := ?v5) ?hi5 (by kernel_rfl) (by kernel_rfl) (by kernel_rfl) ?hq5 ?hy5 hHeld ?rest5
  case hi5 => (simp only [List.getElem?_toArray, List.getElem?_cons_succ, List.getElem?_cons_zero]; rfl)
  case hy5 => (refine Or.inl ⟨by rfl, ?_⟩; intro w hSw; (try dsimp only at hSw); go_simp; try with_reducible rfl)
  case hq5 => exact fun _ _ _ h => h
  try simp only [Act.put, List.setIfInBounds_toArray, List.set_cons_zero, List.set_cons_succ]
  refine wpAnyH_take (i := 5) (oi := ?oi6) (v := ?v6) ?hi6 (by kernel_rfl) (by kernel_rfl) (by kernel_rfl) ?hq6 ?hy6 hHeld ?rest6
  case hi6 => (simp only [List.getElem?_toArray, List.getElem?_cons_succ, List.getElem?_cons_zero]; rfl)
  case hy6 => (refine Or.inl ⟨by rfl, ?_⟩; intro w hSw; (try dsimp only at hSw); go_simp; try with_reducible rfl)
  case hq6 => exact fun _ _ _ h => h
  try simp only [Act.put, List.setIfInBounds_toArray, List.set_cons_zero, List.set_cons_succ]
  refine wpAnyH_take (i := 6) (oi := ?oi7) (v := ?v7) ?hi7 (by kernel_rfl) (by kernel_rfl) (by kernel_rfl) ?hq7 ?hy7 hHeld ?rest7
  case hi7 => (simp only [List.getElem?_toArray, List.getElem?_cons_succ, List.getElem?_cons_zero]; rfl)
  case hy7 => (refine Or.inl ⟨by rfl, ?_⟩; intro w hSw; (try dsimp only at hSw); go_simp; try with_reducible rfl)
  case hq7 => exact fun _ _ _ h => h
  try simp only [Act.put, List.setIfInBounds_toArray, List.set_cons_zero, List.set_cons_succ]
  refine wpAnyH_take (i := 7) (oi := ?oi8) (v := ?v8) ?hi8 (by kernel_rfl) (by kernel_rfl) (by kernel_rfl) ?hq8 ?hy8 hHeld ?rest8
  case hi8 => (simp only [List.getElem?_toArray, List.getElem?_cons_succ, List.getElem?_cons_zero]; rfl)
  case hy8 => (refine Or.inl ⟨by rfl, ?_⟩; intro w hSw; (try dsimp only at hSw); go_simp; try with_reducible rfl)
  case hq8 => exact fun _ _ _ h => h
  try simp only [Act.put, List.setIfInBounds_toArray, List.set_cons_zero, List.set_cons_succ]
  refine wpAnyH_take (i := 8) (oi := ?oi9) (v := ?v9) ?hi9 (by kernel_rfl) (by kernel_rfl) (by kernel_rfl) ?hq9 ?hy9 hHeld ?rest9
  case hi9 => (simp only [List.getElem?_toArray, List.getElem?_cons_succ, List.getElem?_cons_zero]; rfl)
  case hy9 => (refine Or.inl ⟨by rfl, ?_⟩; intro w hSw; (try dsimp only at hSw); go_simp; try with_reducible rfl)
  case hq9 => exact fun _ _ _ h => h
  try simp only [Act.put, List.setIfInBounds_toArray, List.set_cons_zero, List.set_cons_succ]
  refine wpAnyH_take (i := 10) (oi := ?oi10) (v := ?v10) ?hi10 (by kernel_rfl) (by kernel_rfl) (by kernel_rfl) ?hq10 ?hy10 hHeld ?rest10
  case hi10 => (simp only [List.getElem?_toArray, List.getElem?_cons_succ, List.getElem?_cons_zero]; rfl)
  case hy10 => (refine Or.inl ⟨by rfl, ?_⟩; intro w hSw; (try dsimp only at hSw); go_simp; try with_reducible rfl)
  case hq10 => exact fun _ _ _ h => h
  try simp only [Act.put, List.setIfInBounds_toArray, List.set_cons_zero, List.set_cons_succ]
  refine wpAnyH_take (i := 12) (oi := ?oi11) (v := ?v11) ?hi11 (by kernel_rfl) (by kernel_rfl) (by kernel_rfl) ?hq11 ?hy11 hHeld ?rest11
  case hi11 => (simp only [List.getElem?_toArray, List.getElem?_cons_succ, List.getElem?_cons_zero]; rfl)
  case hy11 => (refine Or.inl ⟨by rfl, ?_⟩; intro w hSw; (try dsimp only at hSw); go_simp; try with_reducible rfl)
  case hq11 => exact fun _ _ _ h => h
  try simp only [Act.put, List.setIfInBounds_toArray, List.set_cons_zero, List.set_cons_succ]
  refine wpAnyH_take (i := 13) (oi := ?oi12) (v := ?v12) ?hi12 (by kernel_rfl) (by kernel_rfl) (by kernel_rfl) ?hq12 ?hy12 hHeld ?rest12
  case hi12 => (simp only [List.getElem?_toArray, List.getElem?_cons_succ, List.getElem?_cons_zero]; rfl)
  case hy12 => (refine Or.inl ⟨by rfl, ?_⟩; intro w hSw; (try dsimp only at hSw); go_simp; try with_reducible rfl)
  case hq12 => exact fun _ _ _ h => h
  try simp only [Act.put, List.setIfInBounds_toArray, List.set_cons_zero, List.set_cons_succ]
  refine wpAnyH_take (i := 14) (oi := ?oi13) (v := ?v13) ?hi13 (by kernel_rfl) (by kernel_rfl) (by kernel_rfl) ?hq13 ?hy13 hHeld ?rest13
  case hi13 => (simp only [List.getElem?_toArray, List.getElem?_cons_succ, List.getElem?_cons_zero]; rfl)
  case hy13 => (refine Or.inl ⟨by rfl, ?_⟩; intro w hSw; (try dsimp only at hSw); go_simp; try with_reducible rfl)
  case hq13 => exact fun _ _ _ h => h
  try simp only [Act.put, List.setIfInBounds_toArray, List.set_cons_zero, List.set_cons_succ]
  refine wpAnyH_ready (rs := [9]) (by kernel_rfl) (by simp) ?_
  refine AllReadyH.cons (o := ?oi14) ?hi14 (fun K hK => ?_) AllReadyH.nil
  case hi14 => (simp only [List.getElem?_toArray, List.getElem?_cons_succ, List.getElem?_cons_zero]; rfl)
  go_simp
  go_at_call 18
  refine (calls_ipost (s_join (w := w7.drew) FF.out.reads FM.out.reads (ml300 FF.out.few) (ml300 FM.out.few) HG.out) HJ.out).mono ?_
  rintro e w8 ⟨⟨Ap, cp, rfl, hrp, hnilp, hcp⟩, hb⟩
  have HYq := Lib.hid (HY.out.trans (hb.mono HY.out.size))
  clear HY
  have HY := HYq
  clear HYq
  have HBq := Lib.hid (HB.out.trans (hb.mono HB.out.size))
  clear HB
  have HB := HBq
  clear HBq
  have HGq := Lib.hid (HG.out.next hb)
  clear HG
  have HG := HGq
  clear HGq
  have FGq := Lib.hid (FG.out.next hb)
  clear FG
  have FG := FGq
  clear FGq
  have FFq := Lib.hid (FF.out.next hb)
  clear FF
  have FF := FFq
  clear FFq
  have FMq := Lib.hid (FM.out.next hb)
  clear FM
  have FM := FMq
  clear FMq
  have BXq := Lib.hid (BX.out.next hb)
  clear BX
  have BX := BXq
  clear BXq
  have BTq := Lib.hid (BT.out.next hb)
  clear BT
  have BT := BTq
  clear BTq
  have FLq := Lib.hid (FL.out.next hb)
  clear FL
  have FL := FLq
  clear FLq
  clear hb
  have FK := Lib.hid (LAsk.mk hrp hnilp hcp (by have := HJN.out; omega) HJI.out)
  try go_wp2_with fail
  clear hHeld
  refine hK.out _ _ (HKEEP.out _ HY.out) (fun hHeld => ?_)
  clear hK K
  try simp only [Act.put, List.setIfInBounds_toArray, List.set_cons_zero, List.set_cons_succ]
  refine wpAnyH_ready (rs := [11]) (by kernel_rfl) (by simp) ?_
  refine AllReadyH.cons (o := ?oi15) ?hi15 (fun K hK => ?_) AllReadyH.nil
  case hi15 => (simp only [List.getElem?_toArray, List.getElem?_cons_succ, List.getElem?_cons_zero]; rfl)
  go_simp
  go_at_call 8
  refine (m9_many (w := w8) H FG.out FK.out HS.out HG.out E6.out).mono ?_
  rintro e w9 ⟨rfl, hb⟩
  have HYq := Lib.hid (HY.out.trans (hb.mono HY.out.size))
  clear HY
  have HY := HYq
  clear HYq
  have HBq := Lib.hid (HB.out.trans (hb.mono HB.out.size))
  clear HB
  have HB := HBq
  clear HBq
  have HGq := Lib.hid (HG.out.next hb)
  clear HG
  have HG := HGq
  clear HGq
  have FGq := Lib.hid (FG.out.next hb)
  clear FG
  have FG := FGq
  clear FGq
  have FFq := Lib.hid (FF.out.next hb)
  clear FF
  have FF := FFq
  clear FFq
  have FMq := Lib.hid (FM.out.next hb)
  clear FM
  have FM := FMq
  clear FMq
  have BXq := Lib.hid (BX.out.next hb)
  clear BX
  have BX := BXq
  clear BXq
  have BTq := Lib.hid (BT.out.next hb)
  clear BT
  have BT := BTq
  clear BTq
  have FLq := Lib.hid (FL.out.next hb)
  clear FL
  have FL := FLq
  clear FLq
  have FKq := Lib.hid (FK.out.next hb)
  clear FK
  have FK := FKq
  clear FKq
  clear hb
  try go_wp2_with fail
  clear hHeld
  refine hK.out _ _ (HKEEP.out _ HY.out) (fun hHeld => ?_)
  clear hK K
  try simp only [Act.put, List.setIfInBounds_toArray, List.set_cons_zero, List.set_cons_succ]
  refine wpAnyH_ready (rs := [15]) (by kernel_rfl) (by simp) ?_
  refine AllReadyH.cons (o := ?oi16) ?hi16 (fun K hK => ?_) AllReadyH.nil
  case hi16 => (simp only [List.getElem?_toArray, List.getElem?_cons_succ, List.getElem?_cons_zero]; rfl)
  go_simp
  go_at_call 8
  refine (m9_many (w := w9) H FG.out FF.out HS.out HG.out E5.out).mono ?_
  rintro e w10 ⟨rfl, hb⟩
  have HYq := Lib.hid (HY.out.trans (hb.mono HY.out.size))
  clear HY
  have HY := HYq
  clear HYq
  have HBq := Lib.hid (HB.out.trans (hb.mono HB.out.size))
  clear HB
  have HB := HBq
  clear HBq
  have HGq := Lib.hid (HG.out.next hb)
  clear HG
  have HG := HGq
  clear HGq
  have FGq := Lib.hid (FG.out.next hb)
  clear FG
  have FG := FGq
  clear FGq
  have FFq := Lib.hid (FF.out.next hb)
  clear FF
  have FF := FFq
  clear FFq
  have FMq := Lib.hid (FM.out.next hb)
  clear FM
  have FM := FMq
  clear FMq
  have BXq := Lib.hid (BX.out.next hb)
  clear BX
  have BX := BXq
  clear BXq
  have BTq := Lib.hid (BT.out.next hb)
  clear BT
  have BT := BTq
  clear BTq
  have FLq := Lib.hid (FL.out.next hb)
  clear FL
  have FL := FLq
  clear FLq
  have FKq := Lib.hid (FK.out.next hb)
  clear FK
  have FK := FKq
  clear FKq
  clear hb
  try go_wp2_with fail
  clear hHeld
  refine hK.out _ _ (HKEEP.out _ HY.out) (fun hHeld => ?_)
  clear hK K
  try simp only [Act.put, List.setIfInBounds_toArray, List.set_cons_zero, List.set_cons_succ]
  refine wpAnyH_take (i := 16) (oi := ?oi17) (v := ?v17) ?hi17 (by kernel_rfl) (by kernel_rfl) (by kernel_rfl) ?hq17 ?hy17 hHeld ?rest17
  case hi17 => (simp only [List.getElem?_toArray, List.getElem?_cons_succ, List.getElem?_cons_zero]; rfl)
  case hy17 => (refine Or.inl ⟨by rfl, ?_⟩; intro w hSw; (try dsimp only at hSw); go_simp; try with_reducible rfl)
  case hq17 => exact fun _ _ _ h => h
  try simp only [Act.put, List.setIfInBounds_toArray, List.set_cons_zero, List.set_cons_succ]
  refine wpAnyH_take (i := 17) (oi := ?oi18) (v := ?v18) ?hi18 (by kernel_rfl) (by kernel_rfl) (by kernel_rfl) ?hq18 ?hy18 hHeld ?rest18
  case hi18 => (simp only [List.getElem?_toArray, List.getElem?_cons_succ, List.getElem?_cons_zero]; rfl)
  case hy18 => (refine Or.inl ⟨by rfl, ?_⟩; intro w hSw; (try dsimp only at hSw); go_simp; try with_reducible rfl)
  case hq18 => exact fun _ _ _ h => h
  try simp only [Act.put, List.setIfInBounds_toArray, List.set_cons_zero, List.set_cons_succ]
  refine wpAnyH_done (by kernel_rfl) ?_ _
  clear HKEEP HY hHeld
  clear FK
  go_wp2
  go_ret
  exact ⟨rfl, HB.out⟩

set_option maxRecDepth 100000 in
set_option maxHeartbeats 8000000 in
theorem matchMore_m1 (H : MatchOk) (GO : GraphOk) (A : Option Addr) (n c : Nat) (A2 : Option Addr) (n2 c2 : Nat) (A3 : Option Addr) (n3 c3 : Nat) (g : Gr) (F F3 : List Int) (s t : Sp) (w : World) (hg : GAsk w A n c g) (hf : LAsk w A2 n2 c2 F) (hm : LAsk w A3 n3 c3 F3) (hs : SAsk s) (ht : SAsk t) (h60 : ¬ 60 < n) (hG : Glob w) (h1 : rightB F = true) (h2 : rightB F3 = true) (h3 : rightG g = true) (hb : hadB g F s = true) :
    Calls Tryd.prog 4 #[.slice A n c, .slice A2 n2 c2, .slice A3 n3 c3, .agg #[.int .i64 s.nodes, .int .i64 s.cores, .int .i64 s.gpus, .string s.tag, .bool s.whole, .int .i64 s.long, .int .i64 s.prio], .agg #[.int .i64 t.nodes, .int .i64 t.cores, .int .i64 t.gpus, .string t.tag, .bool t.whole, .int .i64 t.long, .int .i64 t.prio]] w fun e w' => e = .returned (.bool true) ∧ Below w.heap.size w w' := by
  have hJ := right_joinL F F3
  have hm12 := more_many (g := g) (s := s) h1 h2
  have hmore := more_had (g := g) (s := s) h1 h2
  have R1 := Lib.hid h1
  have R2 := Lib.hid h2
  have R3 := Lib.hid h3
  have hlr := findL_right (F := F) (s := s) h3
  have HLR0 := Lib.hid hlr
  have hxap := fun h => left_apart (g := g) (t := t) h1 hlr h
  have hln := right_few hlr
  have hli := right_int hlr
  have hxr := right_lessL F (findL g F s)
  have hyr := findL_right (F := lessL F (findL g F s)) (s := t) h3
  obtain ⟨l, e1⟩ : ∃ r, findL g F s = r := ⟨_, rfl⟩
  rw [e1] at hlr hln hli hxr hyr hxap
  have HLR := Lib.hid hlr
  clear HLR0
  obtain ⟨J, hj⟩ : ∃ r, joinL F F3 = r := ⟨_, rfl⟩
  rw [hj] at hJ hm12 hmore
  obtain ⟨X, hx⟩ : ∃ r, lessL F l = r := ⟨_, rfl⟩
  rw [hx] at hxr hyr hxap
  obtain ⟨Y, e7⟩ : ∃ r, findL g X t = r := ⟨_, rfl⟩
  rw [e7] at hyr hxap
  obtain ⟨b3, e8⟩ : ∃ r, hadB g X t = r := ⟨_, rfl⟩
  rw [e8] at hxap
  obtain ⟨l2, e3⟩ : ∃ r, findL g J s = r := ⟨_, rfl⟩
  obtain ⟨b2, e4⟩ : ∃ r, hadB g J s = r := ⟨_, rfl⟩
  obtain ⟨m1, e5⟩ : ∃ r, manyL g F s = r := ⟨_, rfl⟩
  obtain ⟨m2, e6⟩ : ∃ r, manyL g J s = r := ⟨_, rfl⟩
  rw [e4] at hmore
  rw [e5, e6] at hm12
  have dm : decide (m2 < m1) = false := decide_eq_false (by omega)
  have HLN := Lib.hid hln
  have HLI := Lib.hid hli
  have HJ := Lib.hid hj
  have HJN := Lib.hid (right_few hJ)
  have HJI := Lib.hid (right_int hJ)
  have HX := Lib.hid hx
  have HXN := Lib.hid (right_few hxr)
  have HXI2 := Lib.hid (right_int hxr)
  have HYN := Lib.hid (right_few hyr)
  have HYI := Lib.hid (right_int hyr)
  have HAP := Lib.hid hxap
  have E1 := Lib.hid e1
  have E2 := Lib.hid hb
  have E3 := Lib.hid e3
  have E5 := Lib.hid e5
  have E6 := Lib.hid e6
  have E7 := Lib.hid e7
  have E8 := Lib.hid e8
  have hnn := nodesL_len (g := g)
  have hni := nodesL_i64 (g := g)
  obtain ⟨L, hL⟩ : ∃ L, nodesL g = L := ⟨_, rfl⟩
  rw [hL] at hnn hni
  have HNN := Lib.hid hnn
  have HNI := Lib.hid hni
  have HL := Lib.hid hL
  have HS := Lib.hid hs
  have HT := Lib.hid ht
  have hb2 := hmore hb
  subst hb2
  have E4 := Lib.hid e4
  obtain ⟨W, hW⟩ : ∃ W, W = (w.alloc (spO s)).alloc (spO t) := ⟨_, rfl⟩
  have BX : Hid (BoxS W w.heap.size s) := Lib.hid (by rw [hW]; exact (box_new w s).alloc _)
  have BT : Hid (BoxS W (w.heap.size + 1) t) := Lib.hid (by
    have := box_new (w.alloc (spO s)) t
    rw [show (w.alloc (spO s)).heap.size = w.heap.size + 1 by simp] at this
    rw [hW]; exact this)
  have hb0 : Below w.heap.size w W := by rw [hW]; exact ((Below.refl _ _).alloc (Nat.le_refl _) _).alloc (by simp) _
  have HB := Lib.hid hb0
  have HG := Lib.hid (hG.next hb0)
  have h60d : decide ((60 : Int) < (n : Int)) = false := by simp; omega
  have FG := Lib.hid (hg.next hb0)
  have FF := Lib.hid (hf.next hb0)
  have FM := Lib.hid (hm.next hb0)
  unfold spO at hW
  clear hb0 hG hg hf hm h60 h1 h2 h3 hb hJ hm12 hmore hlr hln hli hxr hyr hxap e1 hj hx e7 e8 e3 e4 e5 e6 hnn hni hL hs ht
  go_enter Tryd.func4, Tryd.ntmps4
  go_wp2_with fail
  rw [← hW]
  refine (awake9_any H GO _ HG.out).mono ?_
  rintro e w1 ⟨rfl, hb⟩
  have HBq := Lib.hid (HB.out.trans (hb.mono HB.out.size))
  clear HB
  have HB := HBq
  clear HBq
  have HGq := Lib.hid (HG.out.next hb)
  clear HG
  have HG := HGq
  clear HGq
  have FGq := Lib.hid (FG.out.next hb)
  clear FG
  have FG := FGq
  clear FGq
  have FFq := Lib.hid (FF.out.next hb)
  clear FF
  have FF := FFq
  clear FFq
  have FMq := Lib.hid (FM.out.next hb)
  clear FM
  have FM := FMq
  clear FMq
  have BXq := Lib.hid (BX.out.next hb)
  clear BX
  have BX := BXq
  clear BXq
  have BTq := Lib.hid (BT.out.next hb)
  clear BT
  have BT := BTq
  clear BTq
  clear hb
  clear hW
  go_wp2_with fail
  refine (s_isSet FF.out.reads (ml300 FF.out.few) R1.out).mono ?_
  rintro e w2 ⟨rfl, hb⟩
  have HBq := Lib.hid (HB.out.trans (hb.mono HB.out.size))
  clear HB
  have HB := HBq
  clear HBq
  have HGq := Lib.hid (HG.out.next hb)
  clear HG
  have HG := HGq
  clear HGq
  have FGq := Lib.hid (FG.out.next hb)
  clear FG
  have FG := FGq
  clear FGq
  have FFq := Lib.hid (FF.out.next hb)
  clear FF
  have FF := FFq
  clear FFq
  have FMq := Lib.hid (FM.out.next hb)
  clear FM
  have FM := FMq
  clear FMq
  have BXq := Lib.hid (BX.out.next hb)
  clear BX
  have BX := BXq
  clear BXq
  have BTq := Lib.hid (BT.out.next hb)
  clear BT
  have BT := BTq
  clear BTq
  clear hb
  go_wp2_with fail
  refine (s_isSet FM.out.reads (ml300 FM.out.few) R2.out).mono ?_
  rintro e w3 ⟨rfl, hb⟩
  have HBq := Lib.hid (HB.out.trans (hb.mono HB.out.size))
  clear HB
  have HB := HBq
  clear HBq
  have HGq := Lib.hid (HG.out.next hb)
  clear HG
  have HG := HGq
  clear HGq
  have FGq := Lib.hid (FG.out.next hb)
  clear FG
  have FG := FGq
  clear FGq
  have FFq := Lib.hid (FF.out.next hb)
  clear FF
  have FF := FFq
  clear FFq
  have FMq := Lib.hid (FM.out.next hb)
  clear FM
  have FM := FMq
  clear FMq
  have BXq := Lib.hid (BX.out.next hb)
  clear BX
  have BX := BXq
  clear BXq
  have BTq := Lib.hid (BT.out.next hb)
  clear BT
  have BT := BTq
  clear BTq
  clear hb
  go_wp2_with fail
  refine (calls_bool (GO.right _ _ _ _ _ FG.out HG.out) R3.out).mono ?_
  rintro e w4 ⟨rfl, hb⟩
  have HBq := Lib.hid (HB.out.trans (hb.mono HB.out.size))
  clear HB
  have HB := HBq
  clear HBq
  have HGq := Lib.hid (HG.out.next hb)
  clear HG
  have HG := HGq
  clear HGq
  have FGq := Lib.hid (FG.out.next hb)
  clear FG
  have FG := FGq
  clear FGq
  have FFq := Lib.hid (FF.out.next hb)
  clear FF
  have FF := FFq
  clear FFq
  have FMq := Lib.hid (FM.out.next hb)
  clear FM
  have FM := FMq
  clear FMq
  have BXq := Lib.hid (BX.out.next hb)
  clear BX
  have BX := BXq
  clear BXq
  have BTq := Lib.hid (BT.out.next hb)
  clear BT
  have BT := BTq
  clear BTq
  clear hb
  have q0 := BX.out.c0
  have q1 := BX.out.c1
  have q2 := BX.out.c2
  have q3 := BX.out.c3
  have q4 := BX.out.c4
  have q5 := BX.out.c5
  have q6 := BX.out.c6
  go_wp2_with fail
  refine (m9_find H FG.out FF.out HS.out HG.out E1.out E2.out).mono ?_
  rintro e w5 ⟨⟨A5, c5, rfl, hr5, hnil5, hc5⟩, hb⟩
  have HBq := Lib.hid (HB.out.trans (hb.mono HB.out.size))
  clear HB
  have HB := HBq
  clear HBq
  have HGq := Lib.hid (HG.out.next hb)
  clear HG
  have HG := HGq
  clear HGq
  have FGq := Lib.hid (FG.out.next hb)
  clear FG
  have FG := FGq
  clear FGq
  have FFq := Lib.hid (FF.out.next hb)
  clear FF
  have FF := FFq
  clear FFq
  have FMq := Lib.hid (FM.out.next hb)
  clear FM
  have FM := FMq
  clear FMq
  have BXq := Lib.hid (BX.out.next hb)
  clear BX
  have BX := BXq
  clear BXq
  have BTq := Lib.hid (BT.out.next hb)
  clear BT
  have BT := BTq
  clear BTq
  clear hb
  have FL := Lib.hid (LAsk.mk hr5 hnil5 hc5 (by have := HLN.out; omega) HLI.out)
  clear hr5 hnil5 hc5
  clear q0 q1 q2 q3 q4 q5 q6
  go_wp2
  have HKEEP : Hid (∀ wx, Below w5.drew.heap.size w5.drew wx → wx.cell? ⟨w.heap.size, 0, none⟩ = some (.int .i64 s.nodes) ∧ wx.cell? ⟨w.heap.size, 1, none⟩ = some (.int .i64 s.cores) ∧ wx.cell? ⟨w.heap.size, 2, none⟩ = some (.int .i64 s.gpus) ∧ wx.cell? ⟨w.heap.size, 3, none⟩ = some (.string s.tag) ∧ wx.cell? ⟨w.heap.size, 4, none⟩ = some (.bool s.whole) ∧ wx.cell? ⟨w.heap.size, 5, none⟩ = some (.int .i64 s.long) ∧ wx.cell? ⟨w.heap.size, 6, none⟩ = some (.int .i64 s.prio)) := Lib.hid (fun wx hz' => by
    have hz := (bel_drew1 w5).trans (hz'.mono (bel_drew1 w5).size)
    exact ⟨keep_cell BX.out.lt BX.out.c0 hz, keep_cell BX.out.lt BX.out.c1 hz, keep_cell BX.out.lt BX.out.c2 hz, keep_cell BX.out.lt BX.out.c3 hz, keep_cell BX.out.lt BX.out.c4 hz, keep_cell BX.out.lt BX.out.c5 hz, keep_cell BX.out.lt BX.out.c6 hz⟩)
  have hd := bel_drew1 w5
  have HBq := Lib.hid (HB.out.trans (hd.mono HB.out.size))
  clear HB
  have HB := HBq
  clear HBq
  have HGq := Lib.hid (HG.out.next hd)
  clear HG
  have HG := HGq
  clear HGq
  have FGq := Lib.hid (FG.out.next hd)
  clear FG
  have FG := FGq
  clear FGq
  have FFq := Lib.hid (FF.out.next hd)
  clear FF
  have FF := FFq
  clear FFq
  have FMq := Lib.hid (FM.out.next hd)
  clear FM
  have FM := FMq
  clear FMq
  have BXq := Lib.hid (BX.out.next hd)
  clear BX
  have BX := BXq
  clear BXq
  have BTq := Lib.hid (BT.out.next hd)
  clear BT
  have BT := BTq
  clear BTq
  have FLq := Lib.hid (FL.out.next hd)
  clear FL
  have FL := FLq
  clear FLq
  clear hd
  have HY := Lib.hid (Below.refl w5.drew.heap.size w5.drew)
  go_region_held3 (fun w' => w'.cell? ⟨w.heap.size, 0, none⟩ = some (.int .i64 s.nodes) ∧ w'.cell? ⟨w.heap.size, 1, none⟩ = some (.int .i64 s.cores) ∧ w'.cell? ⟨w.heap.size, 2, none⟩ = some (.int .i64 s.gpus) ∧ w'.cell? ⟨w.heap.size, 3, none⟩ = some (.string s.tag) ∧ w'.cell? ⟨w.heap.size, 4, none⟩ = some (.bool s.whole) ∧ w'.cell? ⟨w.heap.size, 5, none⟩ = some (.int .i64 s.long) ∧ w'.cell? ⟨w.heap.size, 6, none⟩ = some (.int .i64 s.prio))
    (first | exact HKEEP.out _ (Below.refl _ _) | exact HKEEP.out _ HY.out | go_keep | fail)
    (first | (go_at_call 18; (with_reducible refine (calls_ipost (s_join (w := w5.drew) FF.out.reads FM.out.reads (ml300 FF.out.few) (ml300 FM.out.few) HG.out) HJ.out).mono ?_); rintro e w6 ⟨⟨Aj, cj, rfl, hrj, hnilj, hcj⟩, hb⟩; have HY := Lib.hid (HY.out.trans (hb.mono HY.out.size)); have HB := Lib.hid (HB.out.trans (hb.mono HB.out.size)); have HG := Lib.hid (HG.out.next hb); have FG := Lib.hid (FG.out.next hb); have FF := Lib.hid (FF.out.next hb); have FM := Lib.hid (FM.out.next hb); have BX := Lib.hid (BX.out.next hb); have BT := Lib.hid (BT.out.next hb); have FL := Lib.hid (FL.out.next hb); have FJ := Lib.hid (LAsk.mk hrj hnilj hcj (by have := HJN.out; omega) HJI.out); clear hb) | (go_at_call 6; (with_reducible refine (m9_find (w := w6) H FG.out FJ.out HS.out HG.out E3.out E4.out).mono ?_); rintro e w7 ⟨⟨Ak, ck, rfl, hrk, hnilk, hck⟩, hb⟩; have HY := Lib.hid (HY.out.trans (hb.mono HY.out.size)); have HB := Lib.hid (HB.out.trans (hb.mono HB.out.size)); have HG := Lib.hid (HG.out.next hb); have FG := Lib.hid (FG.out.next hb); have FF := Lib.hid (FF.out.next hb); have FM := Lib.hid (FM.out.next hb); have BX := Lib.hid (BX.out.next hb); have BT := Lib.hid (BT.out.next hb); have FL := Lib.hid (FL.out.next hb); have FJ := Lib.hid (FJ.out.next hb); clear hb) | fail)
  clear HKEEP HY
  clear FJ
  go_wp2
  have HKEEP : Hid (∀ wx, Below w7.drew.heap.size w7.drew wx → wx.cell? ⟨w.heap.size, 0, none⟩ = some (.int .i64 s.nodes) ∧ wx.cell? ⟨w.heap.size, 1, none⟩ = some (.int .i64 s.cores) ∧ wx.cell? ⟨w.heap.size, 2, none⟩ = some (.int .i64 s.gpus) ∧ wx.cell? ⟨w.heap.size, 3, none⟩ = some (.string s.tag) ∧ wx.cell? ⟨w.heap.size, 4, none⟩ = some (.bool s.whole) ∧ wx.cell? ⟨w.heap.size, 5, none⟩ = some (.int .i64 s.long) ∧ wx.cell? ⟨w.heap.size, 6, none⟩ = some (.int .i64 s.prio)) := Lib.hid (fun wx hz' => by
    have hz := (bel_drew1 w7).trans (hz'.mono (bel_drew1 w7).size)
    exact ⟨keep_cell BX.out.lt BX.out.c0 hz, keep_cell BX.out.lt BX.out.c1 hz, keep_cell BX.out.lt BX.out.c2 hz, keep_cell BX.out.lt BX.out.c3 hz, keep_cell BX.out.lt BX.out.c4 hz, keep_cell BX.out.lt BX.out.c5 hz, keep_cell BX.out.lt BX.out.c6 hz⟩)
  have hd := bel_drew1 w7
  have HBq := Lib.hid (HB.out.trans (hd.mono HB.out.size))
  clear HB
  have HB := HBq
  clear HBq
  have HGq := Lib.hid (HG.out.next hd)
  clear HG
  have HG := HGq
  clear HGq
  have FGq := Lib.hid (FG.out.next hd)
  clear FG
  have FG := FGq
  clear FGq
  have FFq := Lib.hid (FF.out.next hd)
  clear FF
  have FF := FFq
  clear FFq
  have FMq := Lib.hid (FM.out.next hd)
  clear FM
  have FM := FMq
  clear FMq
  have BXq := Lib.hid (BX.out.next hd)
  clear BX
  have BX := BXq
  clear BXq
  have BTq := Lib.hid (BT.out.next hd)
  clear BT
  have BT := BTq
  clear BTq
  have FLq := Lib.hid (FL.out.next hd)
  clear FL
  have FL := FLq
  clear FLq
  clear hd
  have HY := Lib.hid (Below.refl w7.drew.heap.size w7.drew)
  refine wp_region_held_drew (S := fun w' => w'.cell? ⟨w.heap.size, 0, none⟩ = some (.int .i64 s.nodes) ∧ w'.cell? ⟨w.heap.size, 1, none⟩ = some (.int .i64 s.cores) ∧ w'.cell? ⟨w.heap.size, 2, none⟩ = some (.int .i64 s.gpus) ∧ w'.cell? ⟨w.heap.size, 3, none⟩ = some (.string s.tag) ∧ w'.cell? ⟨w.heap.size, 4, none⟩ = some (.bool s.whole) ∧ w'.cell? ⟨w.heap.size, 5, none⟩ = some (.int .i64 s.long) ∧ w'.cell? ⟨w.heap.size, 6, none⟩ = some (.int .i64 s.prio)) (by kernel_rfl) (HKEEP.out _ (Below.refl _ _)) (fun hHeld => ?_)
  refine wpAnyH_take (i := 0) (oi := ?oi19) (v := ?v19) ?hi19 (by kernel_rfl) (by kernel_rfl) (by kernel_rfl) ?hq19 ?hy19 hHeld ?rest19
  case hi19 => (simp only [List.getElem?_toArray, List.getElem?_cons_zero]; rfl)
  case hy19 => (refine Or.inl ⟨by rfl, ?_⟩; intro w hSw; (try dsimp only at hSw); go_simp; try with_reducible rfl)
  case hq19 => exact fun _ _ _ h => h
  try simp only [Act.put, List.setIfInBounds_toArray, List.set_cons_zero, List.set_cons_succ]
  refine wpAnyH_take (i := 1) (oi := ?oi20) (v := ?v20) ?hi20 (by kernel_rfl) (by kernel_rfl) (by kernel_rfl) ?hq20 ?hy20 hHeld ?rest20
  case hi20 => (simp only [List.getElem?_toArray, List.getElem?_cons_succ, List.getElem?_cons_zero]; rfl)
  case hy20 => (refine Or.inl ⟨by rfl, ?_⟩; intro w hSw; (try dsimp only at hSw); go_simp; try with_reducible rfl)
  case hq20 => exact fun _ _ _ h => h
  try simp only [Act.put, List.setIfInBounds_toArray, List.set_cons_zero, List.set_cons_succ]
  refine wpAnyH_take (i := 2) (oi := ?oi21) (v := ?v21) ?hi21 (by kernel_rfl) (by kernel_rfl) (by kernel_rfl) ?hq21 ?hy21 hHeld ?rest21
  case hi21 => (simp only [List.getElem?_toArray, List.getElem?_cons_succ, List.getElem?_cons_zero]; rfl)
  case hy21 => (refine Or.inl ⟨by rfl, ?_⟩; intro w hSw; (try dsimp only at hSw); go_simp; try with_reducible rfl)
  case hq21 => exact fun _ _ _ h => h
  try simp only [Act.put, List.setIfInBounds_toArray, List.set_cons_zero, List.set_cons_succ]
  refine wpAnyH_take (i := 3) (oi := ?oi22) (v := ?v22) ?hi22 (by kernel_rfl) (by kernel_rfl) (by kernel_rfl) ?hq22 ?hy22 hHeld ?rest22
  case hi22 => (simp only [List.getElem?_toArray, List.getElem?_cons_succ, List.getElem?_cons_zero]; rfl)
  case hy22 => (refine Or.inl ⟨by rfl, ?_⟩; intro w hSw; (try dsimp only at hSw); go_simp; try with_reducible rfl)
  case hq22 => exact fun _ _ _ h => h
  try simp only [Act.put, List.setIfInBounds_toArray, List.set_cons_zero, List.set_cons_succ]
  refine wpAnyH_take (i := 4) (oi := ?oi23) (v := ?v23) ?hi23 (by kernel_rfl) (by kernel_rfl) (by kernel_rfl) ?hq23 ?hy23 hHeld ?rest23
  case hi23 => (simp only [List.getElem?_toArray, List.getElem?_cons_succ, List.getElem?_cons_zero]; rfl)
  case hy23 => (refine Or.inl ⟨by rfl, ?_⟩; intro w hSw; (try dsimp only at hSw); go_simp; try with_reducible rfl)
  case hq23 => exact fun _ _ _ h => h
  try simp only [Act.put, List.setIfInBounds_toArray, List.set_cons_zero, List.set_cons_succ]
  refine wpAnyH_take (i := 5) (oi := ?oi24) (v := ?v24) ?hi24 (by kernel_rfl) (by kernel_rfl) (by kernel_rfl) ?hq24 ?hy24 hHeld ?rest24
  case hi24 => (simp only [List.getElem?_toArray, List.getElem?_cons_succ, List.getElem?_cons_zero]; rfl)
  case hy24 => (refine Or.inl ⟨by rfl, ?_⟩; intro w hSw; (try dsimp only at hSw); go_simp; try with_reducible rfl)
  case hq24 => exact fun _ _ _ h => h
  try simp only [Act.put, List.setIfInBounds_toArray, List.set_cons_zero, List.set_cons_succ]
  refine wpAnyH_take (i := 6) (oi := ?oi25) (v := ?v25) ?hi25 (by kernel_rfl) (by kernel_rfl) (by kernel_rfl) ?hq25 ?hy25 hHeld ?rest25
  case hi25 => (simp only [List.getElem?_toArray, List.getElem?_cons_succ, List.getElem?_cons_zero]; rfl)
  case hy25 => (refine Or.inl ⟨by rfl, ?_⟩; intro w hSw; (try dsimp only at hSw); go_simp; try with_reducible rfl)
  case hq25 => exact fun _ _ _ h => h
  try simp only [Act.put, List.setIfInBounds_toArray, List.set_cons_zero, List.set_cons_succ]
  refine wpAnyH_take (i := 7) (oi := ?oi26) (v := ?v26) ?hi26 (by kernel_rfl) (by kernel_rfl) (by kernel_rfl) ?hq26 ?hy26 hHeld ?rest26
  case hi26 => (simp only [List.getElem?_toArray, List.getElem?_cons_succ, List.getElem?_cons_zero]; rfl)
  case hy26 => (refine Or.inl ⟨by rfl, ?_⟩; intro w hSw; (try dsimp only at hSw); go_simp; try with_reducible rfl)
  case hq26 => exact fun _ _ _ h => h
  try simp only [Act.put, List.setIfInBounds_toArray, List.set_cons_zero, List.set_cons_succ]
  refine wpAnyH_take (i := 8) (oi := ?oi27) (v := ?v27) ?hi27 (by kernel_rfl) (by kernel_rfl) (by kernel_rfl) ?hq27 ?hy27 hHeld ?rest27
  case hi27 => (simp only [List.getElem?_toArray, List.getElem?_cons_succ, List.getElem?_cons_zero]; rfl)
  case hy27 => (refine Or.inl ⟨by rfl, ?_⟩; intro w hSw; (try dsimp only at hSw); go_simp; try with_reducible rfl)
  case hq27 => exact fun _ _ _ h => h
  try simp only [Act.put, List.setIfInBounds_toArray, List.set_cons_zero, List.set_cons_succ]
  refine wpAnyH_take (i := 10) (oi := ?oi28) (v := ?v28) ?hi28 (by kernel_rfl) (by kernel_rfl) (by kernel_rfl) ?hq28 ?hy28 hHeld ?rest28
  case hi28 => (simp only [List.getElem?_toArray, List.getElem?_cons_succ, List.getElem?_cons_zero]; rfl)
  case hy28 => (refine Or.inl ⟨by rfl, ?_⟩; intro w hSw; (try dsimp only at hSw); go_simp; try with_reducible rfl)
  case hq28 => exact fun _ _ _ h => h
  try simp only [Act.put, List.setIfInBounds_toArray, List.set_cons_zero, List.set_cons_succ]
  refine wpAnyH_take (i := 12) (oi := ?oi29) (v := ?v29) ?hi29 (by kernel_rfl) (by kernel_rfl) (by kernel_rfl) ?hq29 ?hy29 hHeld ?rest29
  case hi29 => (simp only [List.getElem?_toArray, List.getElem?_cons_succ, List.getElem?_cons_zero]; rfl)
  case hy29 => (refine Or.inl ⟨by rfl, ?_⟩; intro w hSw; (try dsimp only at hSw); go_simp; try with_reducible rfl)
  case hq29 => exact fun _ _ _ h => h
  try simp only [Act.put, List.setIfInBounds_toArray, List.set_cons_zero, List.set_cons_succ]
  refine wpAnyH_take (i := 13) (oi := ?oi30) (v := ?v30) ?hi30 (by kernel_rfl) (by kernel_rfl) (by kernel_rfl) ?hq30 ?hy30 hHeld ?rest30
  case hi30 => (simp only [List.getElem?_toArray, List.getElem?_cons_succ, List.getElem?_cons_zero]; rfl)
  case hy30 => (refine Or.inl ⟨by rfl, ?_⟩; intro w hSw; (try dsimp only at hSw); go_simp; try with_reducible rfl)
  case hq30 => exact fun _ _ _ h => h
  try simp only [Act.put, List.setIfInBounds_toArray, List.set_cons_zero, List.set_cons_succ]
  refine wpAnyH_take (i := 14) (oi := ?oi31) (v := ?v31) ?hi31 (by kernel_rfl) (by kernel_rfl) (by kernel_rfl) ?hq31 ?hy31 hHeld ?rest31
  case hi31 => (simp only [List.getElem?_toArray, List.getElem?_cons_succ, List.getElem?_cons_zero]; rfl)
  case hy31 => (refine Or.inl ⟨by rfl, ?_⟩; intro w hSw; (try dsimp only at hSw); go_simp; try with_reducible rfl)
  case hq31 => exact fun _ _ _ h => h
  try simp only [Act.put, List.setIfInBounds_toArray, List.set_cons_zero, List.set_cons_succ]
  refine wpAnyH_ready (rs := [9]) (by kernel_rfl) (by simp) ?_
  refine AllReadyH.cons (o := ?oi32) ?hi32 (fun K hK => ?_) AllReadyH.nil
  case hi32 => (simp only [List.getElem?_toArray, List.getElem?_cons_succ, List.getElem?_cons_zero]; rfl)
  go_simp
  go_at_call 18
  refine (calls_ipost (s_join (w := w7.drew) FF.out.reads FM.out.reads (ml300 FF.out.few) (ml300 FM.out.few) HG.out) HJ.out).mono ?_
  rintro e w8 ⟨⟨Ap, cp, rfl, hrp, hnilp, hcp⟩, hb⟩
  have HYq := Lib.hid (HY.out.trans (hb.mono HY.out.size))
  clear HY
  have HY := HYq
  clear HYq
  have HBq := Lib.hid (HB.out.trans (hb.mono HB.out.size))
  clear HB
  have HB := HBq
  clear HBq
  have HGq := Lib.hid (HG.out.next hb)
  clear HG
  have HG := HGq
  clear HGq
  have FGq := Lib.hid (FG.out.next hb)
  clear FG
  have FG := FGq
  clear FGq
  have FFq := Lib.hid (FF.out.next hb)
  clear FF
  have FF := FFq
  clear FFq
  have FMq := Lib.hid (FM.out.next hb)
  clear FM
  have FM := FMq
  clear FMq
  have BXq := Lib.hid (BX.out.next hb)
  clear BX
  have BX := BXq
  clear BXq
  have BTq := Lib.hid (BT.out.next hb)
  clear BT
  have BT := BTq
  clear BTq
  have FLq := Lib.hid (FL.out.next hb)
  clear FL
  have FL := FLq
  clear FLq
  clear hb
  have FK := Lib.hid (LAsk.mk hrp hnilp hcp (by have := HJN.out; omega) HJI.out)
  try go_wp2_with fail
  clear hHeld
  refine hK.out _ _ (HKEEP.out _ HY.out) (fun hHeld => ?_)
  clear hK K
  try simp only [Act.put, List.setIfInBounds_toArray, List.set_cons_zero, List.set_cons_succ]
  refine wpAnyH_ready (rs := [11]) (by kernel_rfl) (by simp) ?_
  refine AllReadyH.cons (o := ?oi33) ?hi33 (fun K hK => ?_) AllReadyH.nil
  case hi33 => (simp only [List.getElem?_toArray, List.getElem?_cons_succ, List.getElem?_cons_zero]; rfl)
  go_simp
  go_at_call 8
  refine (m9_many (w := w8) H FG.out FK.out HS.out HG.out E6.out).mono ?_
  rintro e w9 ⟨rfl, hb⟩
  have HYq := Lib.hid (HY.out.trans (hb.mono HY.out.size))
  clear HY
  have HY := HYq
  clear HYq
  have HBq := Lib.hid (HB.out.trans (hb.mono HB.out.size))
  clear HB
  have HB := HBq
  clear HBq
  have HGq := Lib.hid (HG.out.next hb)
  clear HG
  have HG := HGq
  clear HGq
  have FGq := Lib.hid (FG.out.next hb)
  clear FG
  have FG := FGq
  clear FGq
  have FFq := Lib.hid (FF.out.next hb)
  clear FF
  have FF := FFq
  clear FFq
  have FMq := Lib.hid (FM.out.next hb)
  clear FM
  have FM := FMq
  clear FMq
  have BXq := Lib.hid (BX.out.next hb)
  clear BX
  have BX := BXq
  clear BXq
  have BTq := Lib.hid (BT.out.next hb)
  clear BT
  have BT := BTq
  clear BTq
  have FLq := Lib.hid (FL.out.next hb)
  clear FL
  have FL := FLq
  clear FLq
  have FKq := Lib.hid (FK.out.next hb)
  clear FK
  have FK := FKq
  clear FKq
  clear hb
  try go_wp2_with fail
  clear hHeld
  refine hK.out _ _ (HKEEP.out _ HY.out) (fun hHeld => ?_)
  clear hK K
  try simp only [Act.put, List.setIfInBounds_toArray, List.set_cons_zero, List.set_cons_succ]
  refine wpAnyH_ready (rs := [15]) (by kernel_rfl) (by simp) ?_
  refine AllReadyH.cons (o := ?oi34) ?hi34 (fun K hK => ?_) AllReadyH.nil
  case hi34 => (simp only [List.getElem?_toArray, List.getElem?_cons_succ, List.getElem?_cons_zero]; rfl)
  go_simp
  go_at_call 8
  refine (m9_many (w := w9) H FG.out FF.out HS.out HG.out E5.out).mono ?_
  rintro e w10 ⟨rfl, hb⟩
  have HYq := Lib.hid (HY.out.trans (hb.mono HY.out.size))
  clear HY
  have HY := HYq
  clear HYq
  have HBq := Lib.hid (HB.out.trans (hb.mono HB.out.size))
  clear HB
  have HB := HBq
  clear HBq
  have HGq := Lib.hid (HG.out.next hb)
  clear HG
  have HG := HGq
  clear HGq
  have FGq := Lib.hid (FG.out.next hb)
  clear FG
  have FG := FGq
  clear FGq
  have FFq := Lib.hid (FF.out.next hb)
  clear FF
  have FF := FFq
  clear FFq
  have FMq := Lib.hid (FM.out.next hb)
  clear FM
  have FM := FMq
  clear FMq
  have BXq := Lib.hid (BX.out.next hb)
  clear BX
  have BX := BXq
  clear BXq
  have BTq := Lib.hid (BT.out.next hb)
  clear BT
  have BT := BTq
  clear BTq
  have FLq := Lib.hid (FL.out.next hb)
  clear FL
  have FL := FLq
  clear FLq
  have FKq := Lib.hid (FK.out.next hb)
  clear FK
  have FK := FKq
  clear FKq
  clear hb
  try go_wp2_with fail
  clear hHeld
  refine hK.out _ _ (HKEEP.out _ HY.out) (fun hHeld => ?_)
  clear hK K
  try simp only [Act.put, List.setIfInBounds_toArray, List.set_cons_zero, List.set_cons_succ]
  refine wpAnyH_take (i := 16) (oi := ?oi35) (v := ?v35) ?hi35 (by kernel_rfl) (by kernel_rfl) (by kernel_rfl) ?hq35 ?hy35 hHeld ?rest35
  case hi35 => (simp only [List.getElem?_toArray, List.getElem?_cons_succ, List.getElem?_cons_zero]; rfl)
  case hy35 => (refine Or.inl ⟨by rfl, ?_⟩; intro w hSw; (try dsimp only at hSw); go_simp; try with_reducible rfl)
  case hq35 => exact fun _ _ _ h => h
  try simp only [Act.put, List.setIfInBounds_toArray, List.set_cons_zero, List.set_cons_succ]
  refine wpAnyH_take (i := 17) (oi := ?oi36) (v := ?v36) ?hi36 (by kernel_rfl) (by kernel_rfl) (by kernel_rfl) ?hq36 ?hy36 hHeld ?rest36
  case hi36 => (simp only [List.getElem?_toArray, List.getElem?_cons_succ, List.getElem?_cons_zero]; rfl)
  case hy36 => (refine Or.inl ⟨by rfl, ?_⟩; intro w hSw; (try dsimp only at hSw); go_simp; try with_reducible rfl)
  case hq36 => exact fun _ _ _ h => h
  try simp only [Act.put, List.setIfInBounds_toArray, List.set_cons_zero, List.set_cons_succ]
  refine wpAnyH_done (by kernel_rfl) ?_ _
  clear HKEEP HY hHeld
  clear FK
  have q0 := BT.out.c0
  have q1 := BT.out.c1
  have q2 := BT.out.c2
  have q3 := BT.out.c3
  have q4 := BT.out.c4
  have q5 := BT.out.c5
  have q6 := BT.out.c6
  go_wp2_with fail
  refine (calls_ipost (s_less FF.out.reads FL.out.reads (ml300 FF.out.few) (ml300 FL.out.few) HG.out) HX.out).mono ?_
  rintro e w11 ⟨⟨Ax, cx, rfl, hrx, hnilx, hcx⟩, hb⟩
  have HBq := Lib.hid (HB.out.trans (hb.mono HB.out.size))
  clear HB
  have HB := HBq
  clear HBq
  have HGq := Lib.hid (HG.out.next hb)
  clear HG
  have HG := HGq
  clear HGq
  have FGq := Lib.hid (FG.out.next hb)
  clear FG
  have FG := FGq
  clear FGq
  have FFq := Lib.hid (FF.out.next hb)
  clear FF
  have FF := FFq
  clear FFq
  have FMq := Lib.hid (FM.out.next hb)
  clear FM
  have FM := FMq
  clear FMq
  have BXq := Lib.hid (BX.out.next hb)
  clear BX
  have BX := BXq
  clear BXq
  have BTq := Lib.hid (BT.out.next hb)
  clear BT
  have BT := BTq
  clear BTq
  have FLq := Lib.hid (FL.out.next hb)
  clear FL
  have FL := FLq
  clear FLq
  clear hb
  have FX := Lib.hid (LAsk.mk hrx hnilx hcx (by have := HXN.out; omega) HXI2.out)
  clear hrx hnilx hcx
  clear q0 q1 q2 q3 q4 q5 q6
  have q0 := BT.out.c0
  have q1 := BT.out.c1
  have q2 := BT.out.c2
  have q3 := BT.out.c3
  have q4 := BT.out.c4
  have q5 := BT.out.c5
  have q6 := BT.out.c6
  go_wp2_with fail
  refine (m9_find H FG.out FX.out HT.out HG.out E7.out E8.out).mono ?_
  rintro e w12 ⟨⟨Ay, cy, rfl, hry, hnily, hcy⟩, hb⟩
  have HBq := Lib.hid (HB.out.trans (hb.mono HB.out.size))
  clear HB
  have HB := HBq
  clear HBq
  have HGq := Lib.hid (HG.out.next hb)
  clear HG
  have HG := HGq
  clear HGq
  have FGq := Lib.hid (FG.out.next hb)
  clear FG
  have FG := FGq
  clear FGq
  have FFq := Lib.hid (FF.out.next hb)
  clear FF
  have FF := FFq
  clear FFq
  have FMq := Lib.hid (FM.out.next hb)
  clear FM
  have FM := FMq
  clear FMq
  have BXq := Lib.hid (BX.out.next hb)
  clear BX
  have BX := BXq
  clear BXq
  have BTq := Lib.hid (BT.out.next hb)
  clear BT
  have BT := BTq
  clear BTq
  have FLq := Lib.hid (FL.out.next hb)
  clear FL
  have FL := FLq
  clear FLq
  have FXq := Lib.hid (FX.out.next hb)
  clear FX
  have FX := FXq
  clear FXq
  clear hb
  have FY := Lib.hid (LAsk.mk hry hnily hcy (by have := HYN.out; omega) HYI.out)
  clear hry hnily hcy
  clear q0 q1 q2 q3 q4 q5 q6
  cases h3 : b3 with
  | false =>
    go_wp2_with fail
    refine (calls_ipost (GO.nodes _ _ _ _ _ FG.out HG.out) HL.out).mono ?_
    rintro e w13 ⟨⟨An, cn, rfl, hrn, hniln, hcn⟩, hb⟩
    have HBq := Lib.hid (HB.out.trans (hb.mono HB.out.size))
    clear HB
    have HB := HBq
    clear HBq
    have HGq := Lib.hid (HG.out.next hb)
    clear HG
    have HG := HGq
    clear HGq
    have FGq := Lib.hid (FG.out.next hb)
    clear FG
    have FG := FGq
    clear FGq
    have FFq := Lib.hid (FF.out.next hb)
    clear FF
    have FF := FFq
    clear FFq
    have FMq := Lib.hid (FM.out.next hb)
    clear FM
    have FM := FMq
    clear FMq
    have BXq := Lib.hid (BX.out.next hb)
    clear BX
    have BX := BXq
    clear BXq
    have BTq := Lib.hid (BT.out.next hb)
    clear BT
    have BT := BTq
    clear BTq
    have FLq := Lib.hid (FL.out.next hb)
    clear FL
    have FL := FLq
    clear FLq
    have FXq := Lib.hid (FX.out.next hb)
    clear FX
    have FX := FXq
    clear FXq
    have FYq := Lib.hid (FY.out.next hb)
    clear FY
    have FY := FYq
    clear FYq
    clear hb
    have FN := Lib.hid (LAsk.mk hrn hniln hcn (by have := HNN.out; omega) HNI.out)
    clear hrn hniln hcn
    go_wp2
    go_loopw [19] (fun i wr => ∃ k : Nat, k ≤ L.length ∧ i = .int .i64 k ∧ Below w13.heap.size w13 wr) (fun i _ => L.length - (intOf i).toNat)
    case atStart => exact ⟨0, Nat.zero_le _, rfl, Below.refl _ _⟩
    case round =>
      obtain ⟨k, hk, rfl, hrel⟩ := hrel
      have HR0 := Lib.hid hrel
      have hb := hrel
      clear hrel
      have HBq := Lib.hid (HB.out.trans (hb.mono HB.out.size))
      clear HB
      have HB := HBq
      clear HBq
      have HGq := Lib.hid (HG.out.next hb)
      clear HG
      have HG := HGq
      clear HGq
      have FGq := Lib.hid (FG.out.next hb)
      clear FG
      have FG := FGq
      clear FGq
      have FFq := Lib.hid (FF.out.next hb)
      clear FF
      have FF := FFq
      clear FFq
      have FMq := Lib.hid (FM.out.next hb)
      clear FM
      have FM := FMq
      clear FMq
      have BXq := Lib.hid (BX.out.next hb)
      clear BX
      have BX := BXq
      clear BXq
      have BTq := Lib.hid (BT.out.next hb)
      clear BT
      have BT := BTq
      clear BTq
      have FLq := Lib.hid (FL.out.next hb)
      clear FL
      have FL := FLq
      clear FLq
      have FXq := Lib.hid (FX.out.next hb)
      clear FX
      have FX := FXq
      clear FXq
      have FYq := Lib.hid (FY.out.next hb)
      clear FY
      have FY := FYq
      clear FYq
      have FNq := Lib.hid (FN.out.next hb)
      clear FN
      have FN := FNq
      clear FNq
      clear hb
      have HR1 := Lib.hid HR0.out
      clear HR0
      by_cases hlt : k < L.length
      · obtain ⟨x, hx1, hx2, hx3, _, _⟩ := node_facts R3.out (by rw [HL.out]; exact hlt)
        rw [HL.out] at hx1
        have hsu := fun ha => left_suits (t := t) (x := x) R3.out R1.out HLR.out hx2 ha
        rw [HX.out] at hsu
        have hln := HNN.out
        have hk300 : k < 300 := by omega
        have HXI : Hid (I64 (x : Int)) := Lib.hid (node_i65 R3.out hx2)
        obtain ⟨bl, ol, rfl, hcl⟩ := cell_list FN.out.reads hlt hx1
        have CL := Lib.hid hcl
        have hun := underL_len (g := g) (x : Int)
        have hui := underL_i64 (g := g) (x : Int)
        obtain ⟨U, hU⟩ : ∃ U, underL g (x : Int) = U := ⟨_, rfl⟩
        rw [hU] at hun hui hsu
        have HU := Lib.hid hU
        have HUN := Lib.hid hun
        have HUI := Lib.hid hui
        clear hcl hx1 hU hun hui hln
        cases hau : apartB l U with
        | false =>
          have HAU := Lib.hid hau
          clear hsu hau
          go_wp2
          have HKEEP : Hid (∀ wx, Below wr.drew.heap.size wr.drew wx → wx.cell? ⟨w.heap.size + 1, 0, none⟩ = some (.int .i64 t.nodes) ∧ wx.cell? ⟨w.heap.size + 1, 1, none⟩ = some (.int .i64 t.cores) ∧ wx.cell? ⟨w.heap.size + 1, 2, none⟩ = some (.int .i64 t.gpus) ∧ wx.cell? ⟨w.heap.size + 1, 3, none⟩ = some (.string t.tag) ∧ wx.cell? ⟨w.heap.size + 1, 4, none⟩ = some (.bool t.whole) ∧ wx.cell? ⟨w.heap.size + 1, 5, none⟩ = some (.int .i64 t.long) ∧ wx.cell? ⟨w.heap.size + 1, 6, none⟩ = some (.int .i64 t.prio) ∧ wx.cell? ⟨bl, ol + k, none⟩ = some (.int .i64 (x : Int))) := Lib.hid (fun wx hz' => by
            have hz := (bel_drew1 wr).trans (hz'.mono (bel_drew1 wr).size)
            exact ⟨keep_cell BT.out.lt BT.out.c0 hz, keep_cell BT.out.lt BT.out.c1 hz, keep_cell BT.out.lt BT.out.c2 hz, keep_cell BT.out.lt BT.out.c3 hz, keep_cell BT.out.lt BT.out.c4 hz, keep_cell BT.out.lt BT.out.c5 hz, keep_cell BT.out.lt BT.out.c6 hz, keep_cell CL.out.lt CL.out.at' hz⟩)
          have hd := bel_drew1 wr
          have HBq := Lib.hid (HB.out.trans (hd.mono HB.out.size))
          clear HB
          have HB := HBq
          clear HBq
          have HR1q := Lib.hid (HR1.out.trans (hd.mono HR1.out.size))
          clear HR1
          have HR1 := HR1q
          clear HR1q
          have HGq := Lib.hid (HG.out.next hd)
          clear HG
          have HG := HGq
          clear HGq
          have FGq := Lib.hid (FG.out.next hd)
          clear FG
          have FG := FGq
          clear FGq
          have FFq := Lib.hid (FF.out.next hd)
          clear FF
          have FF := FFq
          clear FFq
          have FMq := Lib.hid (FM.out.next hd)
          clear FM
          have FM := FMq
          clear FMq
          have BXq := Lib.hid (BX.out.next hd)
          clear BX
          have BX := BXq
          clear BXq
          have BTq := Lib.hid (BT.out.next hd)
          clear BT
          have BT := BTq
          clear BTq
          have FLq := Lib.hid (FL.out.next hd)
          clear FL
          have FL := FLq
          clear FLq
          have FXq := Lib.hid (FX.out.next hd)
          clear FX
          have FX := FXq
          clear FXq
          have FYq := Lib.hid (FY.out.next hd)
          clear FY
          have FY := FYq
          clear FYq
          have FNq := Lib.hid (FN.out.next hd)
          clear FN
          have FN := FNq
          clear FNq
          have CLq := Lib.hid (CL.out.next hd)
          clear CL
          have CL := CLq
          clear CLq
          clear hd
          have HY := Lib.hid (Below.refl wr.drew.heap.size wr.drew)
          refine wp_region_held_drew (S := fun w' => w'.cell? ⟨w.heap.size + 1, 0, none⟩ = some (.int .i64 t.nodes) ∧ w'.cell? ⟨w.heap.size + 1, 1, none⟩ = some (.int .i64 t.cores) ∧ w'.cell? ⟨w.heap.size + 1, 2, none⟩ = some (.int .i64 t.gpus) ∧ w'.cell? ⟨w.heap.size + 1, 3, none⟩ = some (.string t.tag) ∧ w'.cell? ⟨w.heap.size + 1, 4, none⟩ = some (.bool t.whole) ∧ w'.cell? ⟨w.heap.size + 1, 5, none⟩ = some (.int .i64 t.long) ∧ w'.cell? ⟨w.heap.size + 1, 6, none⟩ = some (.int .i64 t.prio) ∧ w'.cell? ⟨bl, ol + k, none⟩ = some (.int .i64 (x : Int))) (by kernel_rfl) (HKEEP.out _ (Below.refl _ _)) (fun hHeld => ?_)
          refine wpAnyH_take (i := 0) (oi := ?oi37) (v := ?v37) ?hi37 (by kernel_rfl) (by kernel_rfl) (by kernel_rfl) ?hq37 ?hy37 hHeld ?rest37
          case hi37 => (simp only [List.getElem?_toArray, List.getElem?_cons_zero]; rfl)
          case hy37 => (refine Or.inl ⟨by rfl, ?_⟩; intro w hSw; (try dsimp only at hSw); go_simp; try with_reducible rfl)
          case hq37 => exact fun _ _ _ h => h
          try simp only [Act.put, List.setIfInBounds_toArray, List.set_cons_zero, List.set_cons_succ]
          refine wpAnyH_take (i := 1) (oi := ?oi38) (v := ?v38) ?hi38 (by kernel_rfl) (by kernel_rfl) (by kernel_rfl) ?hq38 ?hy38 hHeld ?rest38
          case hi38 => (simp only [List.getElem?_toArray, List.getElem?_cons_succ, List.getElem?_cons_zero]; rfl)
          case hy38 => (refine Or.inl ⟨by rfl, ?_⟩; intro w hSw; (try dsimp only at hSw); go_simp; try with_reducible rfl)
          case hq38 => exact fun _ _ _ h => h
          try simp only [Act.put, List.setIfInBounds_toArray, List.set_cons_zero, List.set_cons_succ]
          refine wpAnyH_take (i := 2) (oi := ?oi39) (v := ?v39) ?hi39 (by kernel_rfl) (by kernel_rfl) (by kernel_rfl) ?hq39 ?hy39 hHeld ?rest39
          case hi39 => (simp only [List.getElem?_toArray, List.getElem?_cons_succ, List.getElem?_cons_zero]; rfl)
          case hy39 => (refine Or.inl ⟨by rfl, ?_⟩; intro w hSw; (try dsimp only at hSw); go_simp; try with_reducible rfl)
          case hq39 => exact fun _ _ _ h => h
          try simp only [Act.put, List.setIfInBounds_toArray, List.set_cons_zero, List.set_cons_succ]
          refine wpAnyH_take (i := 3) (oi := ?oi40) (v := ?v40) ?hi40 (by kernel_rfl) (by kernel_rfl) (by kernel_rfl) ?hq40 ?hy40 hHeld ?rest40
          case hi40 => (simp only [List.getElem?_toArray, List.getElem?_cons_succ, List.getElem?_cons_zero]; rfl)
          case hy40 => (refine Or.inl ⟨by rfl, ?_⟩; intro w hSw; (try dsimp only at hSw); go_simp; try with_reducible rfl)
          case hq40 => exact fun _ _ _ h => h
          try simp only [Act.put, List.setIfInBounds_toArray, List.set_cons_zero, List.set_cons_succ]
          refine wpAnyH_take (i := 4) (oi := ?oi41) (v := ?v41) ?hi41 (by kernel_rfl) (by kernel_rfl) (by kernel_rfl) ?hq41 ?hy41 hHeld ?rest41
          case hi41 => (simp only [List.getElem?_toArray, List.getElem?_cons_succ, List.getElem?_cons_zero]; rfl)
          case hy41 => (refine Or.inl ⟨by rfl, ?_⟩; intro w hSw; (try dsimp only at hSw); go_simp; try with_reducible rfl)
          case hq41 => exact fun _ _ _ h => h
          try simp only [Act.put, List.setIfInBounds_toArray, List.set_cons_zero, List.set_cons_succ]
          refine wpAnyH_take (i := 5) (oi := ?oi42) (v := ?v42) ?hi42 (by kernel_rfl) (by kernel_rfl) (by kernel_rfl) ?hq42 ?hy42 hHeld ?rest42
          case hi42 => (simp only [List.getElem?_toArray, List.getElem?_cons_succ, List.getElem?_cons_zero]; rfl)
          case hy42 => (refine Or.inl ⟨by rfl, ?_⟩; intro w hSw; (try dsimp only at hSw); go_simp; try with_reducible rfl)
          case hq42 => exact fun _ _ _ h => h
          try simp only [Act.put, List.setIfInBounds_toArray, List.set_cons_zero, List.set_cons_succ]
          refine wpAnyH_ready (rs := [6]) (by kernel_rfl) (by simp) ?_
          refine AllReadyH.cons (o := ?oi43) ?hi43 (fun K hK => ?_) AllReadyH.nil
          case hi43 => (simp only [List.getElem?_toArray, List.getElem?_cons_succ, List.getElem?_cons_zero]; rfl)
          go_simp
          go_at_call 13
          refine (calls_ipost (GO.under _ _ _ _ _ wr.drew FG.out HXI.out HG.out) HU.out).mono ?_
          rintro e w14 ⟨⟨Au, cu, rfl, hru, hnilu, hcu⟩, hb⟩
          have HYq := Lib.hid (HY.out.trans (hb.mono HY.out.size))
          clear HY
          have HY := HYq
          clear HYq
          have HBq := Lib.hid (HB.out.trans (hb.mono HB.out.size))
          clear HB
          have HB := HBq
          clear HBq
          have HR1q := Lib.hid (HR1.out.trans (hb.mono HR1.out.size))
          clear HR1
          have HR1 := HR1q
          clear HR1q
          have HGq := Lib.hid (HG.out.next hb)
          clear HG
          have HG := HGq
          clear HGq
          have FGq := Lib.hid (FG.out.next hb)
          clear FG
          have FG := FGq
          clear FGq
          have FFq := Lib.hid (FF.out.next hb)
          clear FF
          have FF := FFq
          clear FFq
          have FMq := Lib.hid (FM.out.next hb)
          clear FM
          have FM := FMq
          clear FMq
          have BXq := Lib.hid (BX.out.next hb)
          clear BX
          have BX := BXq
          clear BXq
          have BTq := Lib.hid (BT.out.next hb)
          clear BT
          have BT := BTq
          clear BTq
          have FLq := Lib.hid (FL.out.next hb)
          clear FL
          have FL := FLq
          clear FLq
          have FXq := Lib.hid (FX.out.next hb)
          clear FX
          have FX := FXq
          clear FXq
          have FYq := Lib.hid (FY.out.next hb)
          clear FY
          have FY := FYq
          clear FYq
          have FNq := Lib.hid (FN.out.next hb)
          clear FN
          have FN := FNq
          clear FNq
          have CLq := Lib.hid (CL.out.next hb)
          clear CL
          have CL := CLq
          clear CLq
          clear hb
          have FU := Lib.hid (LAsk.mk hru hnilu hcu (by have := HUN.out; omega) HUI.out)
          try go_wp2_with fail
          clear hHeld
          refine hK.out _ _ (HKEEP.out _ HY.out) (fun hHeld => ?_)
          clear hK K
          try simp only [Act.put, List.setIfInBounds_toArray, List.set_cons_zero, List.set_cons_succ]
          refine wpAnyH_ready (rs := [7]) (by kernel_rfl) (by simp) ?_
          refine AllReadyH.cons (o := ?oi44) ?hi44 (fun K hK => ?_) AllReadyH.nil
          case hi44 => (simp only [List.getElem?_toArray, List.getElem?_cons_succ, List.getElem?_cons_zero]; rfl)
          go_simp
          go_at_call 20
          refine (s_apart (w := w14) FL.out.reads FU.out.reads (ml300 FL.out.few) (ml300 FU.out.few) HAU.out).mono ?_
          rintro e w15 ⟨rfl, hb⟩
          have HYq := Lib.hid (HY.out.trans (hb.mono HY.out.size))
          clear HY
          have HY := HYq
          clear HYq
          have HBq := Lib.hid (HB.out.trans (hb.mono HB.out.size))
          clear HB
          have HB := HBq
          clear HBq
          have HR1q := Lib.hid (HR1.out.trans (hb.mono HR1.out.size))
          clear HR1
          have HR1 := HR1q
          clear HR1q
          have HGq := Lib.hid (HG.out.next hb)
          clear HG
          have HG := HGq
          clear HGq
          have FGq := Lib.hid (FG.out.next hb)
          clear FG
          have FG := FGq
          clear FGq
          have FFq := Lib.hid (FF.out.next hb)
          clear FF
          have FF := FFq
          clear FFq
          have FMq := Lib.hid (FM.out.next hb)
          clear FM
          have FM := FMq
          clear FMq
          have BXq := Lib.hid (BX.out.next hb)
          clear BX
          have BX := BXq
          clear BXq
          have BTq := Lib.hid (BT.out.next hb)
          clear BT
          have BT := BTq
          clear BTq
          have FLq := Lib.hid (FL.out.next hb)
          clear FL
          have FL := FLq
          clear FLq
          have FXq := Lib.hid (FX.out.next hb)
          clear FX
          have FX := FXq
          clear FXq
          have FYq := Lib.hid (FY.out.next hb)
          clear FY
          have FY := FYq
          clear FYq
          have FNq := Lib.hid (FN.out.next hb)
          clear FN
          have FN := FNq
          clear FNq
          have CLq := Lib.hid (CL.out.next hb)
          clear CL
          have CL := CLq
          clear CLq
          have FUq := Lib.hid (FU.out.next hb)
          clear FU
          have FU := FUq
          clear FUq
          clear hb
          try go_wp2_with fail
          clear hHeld
          refine hK.out _ _ (HKEEP.out _ HY.out) (fun hHeld => ?_)
          clear hK K
          try simp only [Act.put, List.setIfInBounds_toArray, List.set_cons_zero, List.set_cons_succ]
          refine wpAnyH_take (i := 8) (oi := ?oi45) (v := ?v45) ?hi45 (by kernel_rfl) (by kernel_rfl) (by kernel_rfl) ?hq45 ?hy45 hHeld ?rest45
          case hi45 => (simp only [List.getElem?_toArray, List.getElem?_cons_succ, List.getElem?_cons_zero]; rfl)
          case hy45 => (refine Or.inl ⟨by rfl, ?_⟩; intro w hSw; (try dsimp only at hSw); go_simp; try with_reducible rfl)
          case hq45 => exact fun _ _ _ h => h
          try simp only [Act.put, List.setIfInBounds_toArray, List.set_cons_zero, List.set_cons_succ]
          refine wpAnyH_take (i := 9) (oi := ?oi46) (v := undef) ?hi46 (by kernel_rfl) (by kernel_rfl) (by kernel_rfl) ?hq46 ?hy46 hHeld ?rest46
          case hi46 => (simp only [List.getElem?_toArray, List.getElem?_cons_succ, List.getElem?_cons_zero]; rfl)
          case hy46 => exact Or.inr ⟨by rfl, rfl⟩
          case hq46 => exact fun _ _ _ h => h
          try simp only [Act.put, List.setIfInBounds_toArray, List.set_cons_zero, List.set_cons_succ]
          refine wpAnyH_take (i := 10) (oi := ?oi47) (v := undef) ?hi47 (by kernel_rfl) (by kernel_rfl) (by kernel_rfl) ?hq47 ?hy47 hHeld ?rest47
          case hi47 => (simp only [List.getElem?_toArray, List.getElem?_cons_succ, List.getElem?_cons_zero]; rfl)
          case hy47 => exact Or.inr ⟨by rfl, rfl⟩
          case hq47 => exact fun _ _ _ h => h
          try simp only [Act.put, List.setIfInBounds_toArray, List.set_cons_zero, List.set_cons_succ]
          refine wpAnyH_take (i := 11) (oi := ?oi48) (v := undef) ?hi48 (by kernel_rfl) (by kernel_rfl) (by kernel_rfl) ?hq48 ?hy48 hHeld ?rest48
          case hi48 => (simp only [List.getElem?_toArray, List.getElem?_cons_succ, List.getElem?_cons_zero]; rfl)
          case hy48 => exact Or.inr ⟨by rfl, rfl⟩
          case hq48 => exact fun _ _ _ h => h
          try simp only [Act.put, List.setIfInBounds_toArray, List.set_cons_zero, List.set_cons_succ]
          refine wpAnyH_take (i := 12) (oi := ?oi49) (v := undef) ?hi49 (by kernel_rfl) (by kernel_rfl) (by kernel_rfl) ?hq49 ?hy49 hHeld ?rest49
          case hi49 => (simp only [List.getElem?_toArray, List.getElem?_cons_succ, List.getElem?_cons_zero]; rfl)
          case hy49 => exact Or.inr ⟨by rfl, rfl⟩
          case hq49 => exact fun _ _ _ h => h
          try simp only [Act.put, List.setIfInBounds_toArray, List.set_cons_zero, List.set_cons_succ]
          refine wpAnyH_take (i := 13) (oi := ?oi50) (v := undef) ?hi50 (by kernel_rfl) (by kernel_rfl) (by kernel_rfl) ?hq50 ?hy50 hHeld ?rest50
          case hi50 => (simp only [List.getElem?_toArray, List.getElem?_cons_succ, List.getElem?_cons_zero]; rfl)
          case hy50 => exact Or.inr ⟨by rfl, rfl⟩
          case hq50 => exact fun _ _ _ h => h
          try simp only [Act.put, List.setIfInBounds_toArray, List.set_cons_zero, List.set_cons_succ]
          refine wpAnyH_take (i := 14) (oi := ?oi51) (v := undef) ?hi51 (by kernel_rfl) (by kernel_rfl) (by kernel_rfl) ?hq51 ?hy51 hHeld ?rest51
          case hi51 => (simp only [List.getElem?_toArray, List.getElem?_cons_succ, List.getElem?_cons_zero]; rfl)
          case hy51 => exact Or.inr ⟨by rfl, rfl⟩
          case hq51 => exact fun _ _ _ h => h
          try simp only [Act.put, List.setIfInBounds_toArray, List.set_cons_zero, List.set_cons_succ]
          refine wpAnyH_take (i := 15) (oi := ?oi52) (v := undef) ?hi52 (by kernel_rfl) (by kernel_rfl) (by kernel_rfl) ?hq52 ?hy52 hHeld ?rest52
          case hi52 => (simp only [List.getElem?_toArray, List.getElem?_cons_succ, List.getElem?_cons_zero]; rfl)
          case hy52 => exact Or.inr ⟨by rfl, rfl⟩
          case hq52 => exact fun _ _ _ h => h
          try simp only [Act.put, List.setIfInBounds_toArray, List.set_cons_zero, List.set_cons_succ]
          refine wpAnyH_take (i := 16) (oi := ?oi53) (v := undef) ?hi53 (by kernel_rfl) (by kernel_rfl) (by kernel_rfl) ?hq53 ?hy53 hHeld ?rest53
          case hi53 => (simp only [List.getElem?_toArray, List.getElem?_cons_succ, List.getElem?_cons_zero]; rfl)
          case hy53 => exact Or.inr ⟨by rfl, rfl⟩
          case hq53 => exact fun _ _ _ h => h
          try simp only [Act.put, List.setIfInBounds_toArray, List.set_cons_zero, List.set_cons_succ]
          refine wpAnyH_take (i := 17) (oi := ?oi54) (v := undef) ?hi54 (by kernel_rfl) (by kernel_rfl) (by kernel_rfl) ?hq54 ?hy54 hHeld ?rest54
          case hi54 => (simp only [List.getElem?_toArray, List.getElem?_cons_succ, List.getElem?_cons_zero]; rfl)
          case hy54 => exact Or.inr ⟨by rfl, rfl⟩
          case hq54 => exact fun _ _ _ h => h
          try simp only [Act.put, List.setIfInBounds_toArray, List.set_cons_zero, List.set_cons_succ]
          refine wpAnyH_take (i := 18) (oi := ?oi55) (v := undef) ?hi55 (by kernel_rfl) (by kernel_rfl) (by kernel_rfl) ?hq55 ?hy55 hHeld ?rest55
          case hi55 => (simp only [List.getElem?_toArray, List.getElem?_cons_succ, List.getElem?_cons_zero]; rfl)
          case hy55 => exact Or.inr ⟨by rfl, rfl⟩
          case hq55 => exact fun _ _ _ h => h
          try simp only [Act.put, List.setIfInBounds_toArray, List.set_cons_zero, List.set_cons_succ]
          refine wpAnyH_take (i := 19) (oi := ?oi56) (v := undef) ?hi56 (by kernel_rfl) (by kernel_rfl) (by kernel_rfl) ?hq56 ?hy56 hHeld ?rest56
          case hi56 => (simp only [List.getElem?_toArray, List.getElem?_cons_succ, List.getElem?_cons_zero]; rfl)
          case hy56 => exact Or.inr ⟨by rfl, rfl⟩
          case hq56 => exact fun _ _ _ h => h
          try simp only [Act.put, List.setIfInBounds_toArray, List.set_cons_zero, List.set_cons_succ]
          refine wpAnyH_take (i := 20) (oi := ?oi57) (v := undef) ?hi57 (by kernel_rfl) (by kernel_rfl) (by kernel_rfl) ?hq57 ?hy57 hHeld ?rest57
          case hi57 => (simp only [List.getElem?_toArray, List.getElem?_cons_succ, List.getElem?_cons_zero]; rfl)
          case hy57 => exact Or.inr ⟨by rfl, rfl⟩
          case hq57 => exact fun _ _ _ h => h
          try simp only [Act.put, List.setIfInBounds_toArray, List.set_cons_zero, List.set_cons_succ]
          refine wpAnyH_take (i := 21) (oi := ?oi58) (v := undef) ?hi58 (by kernel_rfl) (by kernel_rfl) (by kernel_rfl) ?hq58 ?hy58 hHeld ?rest58
          case hi58 => (simp only [List.getElem?_toArray, List.getElem?_cons_succ, List.getElem?_cons_zero]; rfl)
          case hy58 => exact Or.inr ⟨by rfl, rfl⟩
          case hq58 => exact fun _ _ _ h => h
          try simp only [Act.put, List.setIfInBounds_toArray, List.set_cons_zero, List.set_cons_succ]
          refine wpAnyH_take (i := 22) (oi := ?oi59) (v := undef) ?hi59 (by kernel_rfl) (by kernel_rfl) (by kernel_rfl) ?hq59 ?hy59 hHeld ?rest59
          case hi59 => (simp only [List.getElem?_toArray, List.getElem?_cons_succ, List.getElem?_cons_zero]; rfl)
          case hy59 => exact Or.inr ⟨by rfl, rfl⟩
          case hq59 => exact fun _ _ _ h => h
          try simp only [Act.put, List.setIfInBounds_toArray, List.set_cons_zero, List.set_cons_succ]
          refine wpAnyH_take (i := 23) (oi := ?oi60) (v := undef) ?hi60 (by kernel_rfl) (by kernel_rfl) (by kernel_rfl) ?hq60 ?hy60 hHeld ?rest60
          case hi60 => (simp only [List.getElem?_toArray, List.getElem?_cons_succ, List.getElem?_cons_zero]; rfl)
          case hy60 => exact Or.inr ⟨by rfl, rfl⟩
          case hq60 => exact fun _ _ _ h => h
          try simp only [Act.put, List.setIfInBounds_toArray, List.set_cons_zero, List.set_cons_succ]
          refine wpAnyH_take (i := 24) (oi := ?oi61) (v := undef) ?hi61 (by kernel_rfl) (by kernel_rfl) (by kernel_rfl) ?hq61 ?hy61 hHeld ?rest61
          case hi61 => (simp only [List.getElem?_toArray, List.getElem?_cons_succ, List.getElem?_cons_zero]; rfl)
          case hy61 => exact Or.inr ⟨by rfl, rfl⟩
          case hq61 => exact fun _ _ _ h => h
          try simp only [Act.put, List.setIfInBounds_toArray, List.set_cons_zero, List.set_cons_succ]
          refine wpAnyH_take (i := 25) (oi := ?oi62) (v := undef) ?hi62 (by kernel_rfl) (by kernel_rfl) (by kernel_rfl) ?hq62 ?hy62 hHeld ?rest62
          case hi62 => (simp only [List.getElem?_toArray, List.getElem?_cons_succ, List.getElem?_cons_zero]; rfl)
          case hy62 => exact Or.inr ⟨by rfl, rfl⟩
          case hq62 => exact fun _ _ _ h => h
          try simp only [Act.put, List.setIfInBounds_toArray, List.set_cons_zero, List.set_cons_succ]
          refine wpAnyH_take (i := 26) (oi := ?oi63) (v := ?v63) ?hi63 (by kernel_rfl) (by kernel_rfl) (by kernel_rfl) ?hq63 ?hy63 hHeld ?rest63
          case hi63 => (simp only [List.getElem?_toArray, List.getElem?_cons_succ, List.getElem?_cons_zero]; rfl)
          case hy63 => (refine Or.inl ⟨by rfl, ?_⟩; intro w hSw; (try dsimp only at hSw); go_simp; try with_reducible rfl)
          case hq63 => exact fun _ _ _ h => h
          try simp only [Act.put, List.setIfInBounds_toArray, List.set_cons_zero, List.set_cons_succ]
          refine wpAnyH_done (by kernel_rfl) ?_ _
          clear HKEEP HY hHeld
          go_wp2
          go_roundw
          case rel => exact ⟨k + 1, by omega, by go_num, HR1.out⟩
          case measure => simp [intOf]; omega
        | true =>
          have HAU := Lib.hid hau
          have hsu2 := hsu hau
          obtain ⟨v, s2⟩ : ∃ v, suitsL g F t (x : Int) = v := ⟨_, rfl⟩
          rw [s2] at hsu2
          have S1 := Lib.hid hsu2
          have S2 := Lib.hid s2
          clear hsu hau hsu2 s2
          cases v
          · go_wp2
            have HKEEP : Hid (∀ wx, Below wr.drew.heap.size wr.drew wx → wx.cell? ⟨w.heap.size + 1, 0, none⟩ = some (.int .i64 t.nodes) ∧ wx.cell? ⟨w.heap.size + 1, 1, none⟩ = some (.int .i64 t.cores) ∧ wx.cell? ⟨w.heap.size + 1, 2, none⟩ = some (.int .i64 t.gpus) ∧ wx.cell? ⟨w.heap.size + 1, 3, none⟩ = some (.string t.tag) ∧ wx.cell? ⟨w.heap.size + 1, 4, none⟩ = some (.bool t.whole) ∧ wx.cell? ⟨w.heap.size + 1, 5, none⟩ = some (.int .i64 t.long) ∧ wx.cell? ⟨w.heap.size + 1, 6, none⟩ = some (.int .i64 t.prio) ∧ wx.cell? ⟨bl, ol + k, none⟩ = some (.int .i64 (x : Int))) := Lib.hid (fun wx hz' => by
              have hz := (bel_drew1 wr).trans (hz'.mono (bel_drew1 wr).size)
              exact ⟨keep_cell BT.out.lt BT.out.c0 hz, keep_cell BT.out.lt BT.out.c1 hz, keep_cell BT.out.lt BT.out.c2 hz, keep_cell BT.out.lt BT.out.c3 hz, keep_cell BT.out.lt BT.out.c4 hz, keep_cell BT.out.lt BT.out.c5 hz, keep_cell BT.out.lt BT.out.c6 hz, keep_cell CL.out.lt CL.out.at' hz⟩)
            have hd := bel_drew1 wr
            have HBq := Lib.hid (HB.out.trans (hd.mono HB.out.size))
            clear HB
            have HB := HBq
            clear HBq
            have HR1q := Lib.hid (HR1.out.trans (hd.mono HR1.out.size))
            clear HR1
            have HR1 := HR1q
            clear HR1q
            have HGq := Lib.hid (HG.out.next hd)
            clear HG
            have HG := HGq
            clear HGq
            have FGq := Lib.hid (FG.out.next hd)
            clear FG
            have FG := FGq
            clear FGq
            have FFq := Lib.hid (FF.out.next hd)
            clear FF
            have FF := FFq
            clear FFq
            have FMq := Lib.hid (FM.out.next hd)
            clear FM
            have FM := FMq
            clear FMq
            have BXq := Lib.hid (BX.out.next hd)
            clear BX
            have BX := BXq
            clear BXq
            have BTq := Lib.hid (BT.out.next hd)
            clear BT
            have BT := BTq
            clear BTq
            have FLq := Lib.hid (FL.out.next hd)
            clear FL
            have FL := FLq
            clear FLq
            have FXq := Lib.hid (FX.out.next hd)
            clear FX
            have FX := FXq
            clear FXq
            have FYq := Lib.hid (FY.out.next hd)
            clear FY
            have FY := FYq
            clear FYq
            have FNq := Lib.hid (FN.out.next hd)
            clear FN
            have FN := FNq
            clear FNq
            have CLq := Lib.hid (CL.out.next hd)
            clear CL
            have CL := CLq
            clear CLq
            clear hd
            have HY := Lib.hid (Below.refl wr.drew.heap.size wr.drew)
            refine wp_region_held_drew (S := fun w' => w'.cell? ⟨w.heap.size + 1, 0, none⟩ = some (.int .i64 t.nodes) ∧ w'.cell? ⟨w.heap.size + 1, 1, none⟩ = some (.int .i64 t.cores) ∧ w'.cell? ⟨w.heap.size + 1, 2, none⟩ = some (.int .i64 t.gpus) ∧ w'.cell? ⟨w.heap.size + 1, 3, none⟩ = some (.string t.tag) ∧ w'.cell? ⟨w.heap.size + 1, 4, none⟩ = some (.bool t.whole) ∧ w'.cell? ⟨w.heap.size + 1, 5, none⟩ = some (.int .i64 t.long) ∧ w'.cell? ⟨w.heap.size + 1, 6, none⟩ = some (.int .i64 t.prio) ∧ w'.cell? ⟨bl, ol + k, none⟩ = some (.int .i64 (x : Int))) (by kernel_rfl) (HKEEP.out _ (Below.refl _ _)) (fun hHeld => ?_)
            refine wpAnyH_take (i := 0) (oi := ?oi64) (v := ?v64) ?hi64 (by kernel_rfl) (by kernel_rfl) (by kernel_rfl) ?hq64 ?hy64 hHeld ?rest64
            case hi64 => (simp only [List.getElem?_toArray, List.getElem?_cons_zero]; rfl)
            case hy64 => (refine Or.inl ⟨by rfl, ?_⟩; intro w hSw; (try dsimp only at hSw); go_simp; try with_reducible rfl)
            case hq64 => exact fun _ _ _ h => h
            try simp only [Act.put, List.setIfInBounds_toArray, List.set_cons_zero, List.set_cons_succ]
            refine wpAnyH_take (i := 1) (oi := ?oi65) (v := ?v65) ?hi65 (by kernel_rfl) (by kernel_rfl) (by kernel_rfl) ?hq65 ?hy65 hHeld ?rest65
            case hi65 => (simp only [List.getElem?_toArray, List.getElem?_cons_succ, List.getElem?_cons_zero]; rfl)
            case hy65 => (refine Or.inl ⟨by rfl, ?_⟩; intro w hSw; (try dsimp only at hSw); go_simp; try with_reducible rfl)
            case hq65 => exact fun _ _ _ h => h
            try simp only [Act.put, List.setIfInBounds_toArray, List.set_cons_zero, List.set_cons_succ]
            refine wpAnyH_take (i := 2) (oi := ?oi66) (v := ?v66) ?hi66 (by kernel_rfl) (by kernel_rfl) (by kernel_rfl) ?hq66 ?hy66 hHeld ?rest66
            case hi66 => (simp only [List.getElem?_toArray, List.getElem?_cons_succ, List.getElem?_cons_zero]; rfl)
            case hy66 => (refine Or.inl ⟨by rfl, ?_⟩; intro w hSw; (try dsimp only at hSw); go_simp; try with_reducible rfl)
            case hq66 => exact fun _ _ _ h => h
            try simp only [Act.put, List.setIfInBounds_toArray, List.set_cons_zero, List.set_cons_succ]
            refine wpAnyH_take (i := 3) (oi := ?oi67) (v := ?v67) ?hi67 (by kernel_rfl) (by kernel_rfl) (by kernel_rfl) ?hq67 ?hy67 hHeld ?rest67
            case hi67 => (simp only [List.getElem?_toArray, List.getElem?_cons_succ, List.getElem?_cons_zero]; rfl)
            case hy67 => (refine Or.inl ⟨by rfl, ?_⟩; intro w hSw; (try dsimp only at hSw); go_simp; try with_reducible rfl)
            case hq67 => exact fun _ _ _ h => h
            try simp only [Act.put, List.setIfInBounds_toArray, List.set_cons_zero, List.set_cons_succ]
            refine wpAnyH_take (i := 4) (oi := ?oi68) (v := ?v68) ?hi68 (by kernel_rfl) (by kernel_rfl) (by kernel_rfl) ?hq68 ?hy68 hHeld ?rest68
            case hi68 => (simp only [List.getElem?_toArray, List.getElem?_cons_succ, List.getElem?_cons_zero]; rfl)
            case hy68 => (refine Or.inl ⟨by rfl, ?_⟩; intro w hSw; (try dsimp only at hSw); go_simp; try with_reducible rfl)
            case hq68 => exact fun _ _ _ h => h
            try simp only [Act.put, List.setIfInBounds_toArray, List.set_cons_zero, List.set_cons_succ]
            refine wpAnyH_take (i := 5) (oi := ?oi69) (v := ?v69) ?hi69 (by kernel_rfl) (by kernel_rfl) (by kernel_rfl) ?hq69 ?hy69 hHeld ?rest69
            case hi69 => (simp only [List.getElem?_toArray, List.getElem?_cons_succ, List.getElem?_cons_zero]; rfl)
            case hy69 => (refine Or.inl ⟨by rfl, ?_⟩; intro w hSw; (try dsimp only at hSw); go_simp; try with_reducible rfl)
            case hq69 => exact fun _ _ _ h => h
            try simp only [Act.put, List.setIfInBounds_toArray, List.set_cons_zero, List.set_cons_succ]
            refine wpAnyH_ready (rs := [6]) (by kernel_rfl) (by simp) ?_
            refine AllReadyH.cons (o := ?oi70) ?hi70 (fun K hK => ?_) AllReadyH.nil
            case hi70 => (simp only [List.getElem?_toArray, List.getElem?_cons_succ, List.getElem?_cons_zero]; rfl)
            go_simp
            go_at_call 13
            refine (calls_ipost (GO.under _ _ _ _ _ wr.drew FG.out HXI.out HG.out) HU.out).mono ?_
            rintro e w14 ⟨⟨Au, cu, rfl, hru, hnilu, hcu⟩, hb⟩
            have HYq := Lib.hid (HY.out.trans (hb.mono HY.out.size))
            clear HY
            have HY := HYq
            clear HYq
            have HBq := Lib.hid (HB.out.trans (hb.mono HB.out.size))
            clear HB
            have HB := HBq
            clear HBq
            have HR1q := Lib.hid (HR1.out.trans (hb.mono HR1.out.size))
            clear HR1
            have HR1 := HR1q
            clear HR1q
            have HGq := Lib.hid (HG.out.next hb)
            clear HG
            have HG := HGq
            clear HGq
            have FGq := Lib.hid (FG.out.next hb)
            clear FG
            have FG := FGq
            clear FGq
            have FFq := Lib.hid (FF.out.next hb)
            clear FF
            have FF := FFq
            clear FFq
            have FMq := Lib.hid (FM.out.next hb)
            clear FM
            have FM := FMq
            clear FMq
            have BXq := Lib.hid (BX.out.next hb)
            clear BX
            have BX := BXq
            clear BXq
            have BTq := Lib.hid (BT.out.next hb)
            clear BT
            have BT := BTq
            clear BTq
            have FLq := Lib.hid (FL.out.next hb)
            clear FL
            have FL := FLq
            clear FLq
            have FXq := Lib.hid (FX.out.next hb)
            clear FX
            have FX := FXq
            clear FXq
            have FYq := Lib.hid (FY.out.next hb)
            clear FY
            have FY := FYq
            clear FYq
            have FNq := Lib.hid (FN.out.next hb)
            clear FN
            have FN := FNq
            clear FNq
            have CLq := Lib.hid (CL.out.next hb)
            clear CL
            have CL := CLq
            clear CLq
            clear hb
            have FU := Lib.hid (LAsk.mk hru hnilu hcu (by have := HUN.out; omega) HUI.out)
            try go_wp2_with fail
            clear hHeld
            refine hK.out _ _ (HKEEP.out _ HY.out) (fun hHeld => ?_)
            clear hK K
            try simp only [Act.put, List.setIfInBounds_toArray, List.set_cons_zero, List.set_cons_succ]
            refine wpAnyH_ready (rs := [7]) (by kernel_rfl) (by simp) ?_
            refine AllReadyH.cons (o := ?oi71) ?hi71 (fun K hK => ?_) AllReadyH.nil
            case hi71 => (simp only [List.getElem?_toArray, List.getElem?_cons_succ, List.getElem?_cons_zero]; rfl)
            go_simp
            go_at_call 20
            refine (s_apart (w := w14) FL.out.reads FU.out.reads (ml300 FL.out.few) (ml300 FU.out.few) HAU.out).mono ?_
            rintro e w15 ⟨rfl, hb⟩
            have HYq := Lib.hid (HY.out.trans (hb.mono HY.out.size))
            clear HY
            have HY := HYq
            clear HYq
            have HBq := Lib.hid (HB.out.trans (hb.mono HB.out.size))
            clear HB
            have HB := HBq
            clear HBq
            have HR1q := Lib.hid (HR1.out.trans (hb.mono HR1.out.size))
            clear HR1
            have HR1 := HR1q
            clear HR1q
            have HGq := Lib.hid (HG.out.next hb)
            clear HG
            have HG := HGq
            clear HGq
            have FGq := Lib.hid (FG.out.next hb)
            clear FG
            have FG := FGq
            clear FGq
            have FFq := Lib.hid (FF.out.next hb)
            clear FF
            have FF := FFq
            clear FFq
            have FMq := Lib.hid (FM.out.next hb)
            clear FM
            have FM := FMq
            clear FMq
            have BXq := Lib.hid (BX.out.next hb)
            clear BX
            have BX := BXq
            clear BXq
            have BTq := Lib.hid (BT.out.next hb)
            clear BT
            have BT := BTq
            clear BTq
            have FLq := Lib.hid (FL.out.next hb)
            clear FL
            have FL := FLq
            clear FLq
            have FXq := Lib.hid (FX.out.next hb)
            clear FX
            have FX := FXq
            clear FXq
            have FYq := Lib.hid (FY.out.next hb)
            clear FY
            have FY := FYq
            clear FYq
            have FNq := Lib.hid (FN.out.next hb)
            clear FN
            have FN := FNq
            clear FNq
            have CLq := Lib.hid (CL.out.next hb)
            clear CL
            have CL := CLq
            clear CLq
            have FUq := Lib.hid (FU.out.next hb)
            clear FU
            have FU := FUq
            clear FUq
            clear hb
            try go_wp2_with fail
            clear hHeld
            refine hK.out _ _ (HKEEP.out _ HY.out) (fun hHeld => ?_)
            clear hK K
            try simp only [Act.put, List.setIfInBounds_toArray, List.set_cons_zero, List.set_cons_succ]
            refine wpAnyH_take (i := 8) (oi := ?oi72) (v := ?v72) ?hi72 (by kernel_rfl) (by kernel_rfl) (by kernel_rfl) ?hq72 ?hy72 hHeld ?rest72
            case hi72 => (simp only [List.getElem?_toArray, List.getElem?_cons_succ, List.getElem?_cons_zero]; rfl)
            case hy72 => (refine Or.inl ⟨by rfl, ?_⟩; intro w hSw; (try dsimp only at hSw); go_simp; try with_reducible rfl)
            case hq72 => exact fun _ _ _ h => h
            try simp only [Act.put, List.setIfInBounds_toArray, List.set_cons_zero, List.set_cons_succ]
            refine wpAnyH_take (i := 9) (oi := ?oi73) (v := ?v73) ?hi73 (by kernel_rfl) (by kernel_rfl) (by kernel_rfl) ?hq73 ?hy73 hHeld ?rest73
            case hi73 => (simp only [List.getElem?_toArray, List.getElem?_cons_succ, List.getElem?_cons_zero]; rfl)
            case hy73 => (refine Or.inl ⟨by rfl, ?_⟩; intro w hSw; (try dsimp only at hSw); go_simp; try with_reducible rfl)
            case hq73 => exact fun _ _ _ h => h
            try simp only [Act.put, List.setIfInBounds_toArray, List.set_cons_zero, List.set_cons_succ]
            refine wpAnyH_take (i := 10) (oi := ?oi74) (v := ?v74) ?hi74 (by kernel_rfl) (by kernel_rfl) (by kernel_rfl) ?hq74 ?hy74 hHeld ?rest74
            case hi74 => (simp only [List.getElem?_toArray, List.getElem?_cons_succ, List.getElem?_cons_zero]; rfl)
            case hy74 => (refine Or.inl ⟨by rfl, ?_⟩; intro w hSw; (try dsimp only at hSw); go_simp; try with_reducible rfl)
            case hq74 => exact fun _ _ _ h => h
            try simp only [Act.put, List.setIfInBounds_toArray, List.set_cons_zero, List.set_cons_succ]
            refine wpAnyH_take (i := 11) (oi := ?oi75) (v := ?v75) ?hi75 (by kernel_rfl) (by kernel_rfl) (by kernel_rfl) ?hq75 ?hy75 hHeld ?rest75
            case hi75 => (simp only [List.getElem?_toArray, List.getElem?_cons_succ, List.getElem?_cons_zero]; rfl)
            case hy75 => (refine Or.inl ⟨by rfl, ?_⟩; intro w hSw; (try dsimp only at hSw); go_simp; try with_reducible rfl)
            case hq75 => exact fun _ _ _ h => h
            try simp only [Act.put, List.setIfInBounds_toArray, List.set_cons_zero, List.set_cons_succ]
            refine wpAnyH_take (i := 12) (oi := ?oi76) (v := ?v76) ?hi76 (by kernel_rfl) (by kernel_rfl) (by kernel_rfl) ?hq76 ?hy76 hHeld ?rest76
            case hi76 => (simp only [List.getElem?_toArray, List.getElem?_cons_succ, List.getElem?_cons_zero]; rfl)
            case hy76 => (refine Or.inl ⟨by rfl, ?_⟩; intro w hSw; (try dsimp only at hSw); go_simp; try with_reducible rfl)
            case hq76 => exact fun _ _ _ h => h
            try simp only [Act.put, List.setIfInBounds_toArray, List.set_cons_zero, List.set_cons_succ]
            refine wpAnyH_take (i := 13) (oi := ?oi77) (v := ?v77) ?hi77 (by kernel_rfl) (by kernel_rfl) (by kernel_rfl) ?hq77 ?hy77 hHeld ?rest77
            case hi77 => (simp only [List.getElem?_toArray, List.getElem?_cons_succ, List.getElem?_cons_zero]; rfl)
            case hy77 => (refine Or.inl ⟨by rfl, ?_⟩; intro w hSw; (try dsimp only at hSw); go_simp; try with_reducible rfl)
            case hq77 => exact fun _ _ _ h => h
            try simp only [Act.put, List.setIfInBounds_toArray, List.set_cons_zero, List.set_cons_succ]
            refine wpAnyH_take (i := 14) (oi := ?oi78) (v := ?v78) ?hi78 (by kernel_rfl) (by kernel_rfl) (by kernel_rfl) ?hq78 ?hy78 hHeld ?rest78
            case hi78 => (simp only [List.getElem?_toArray, List.getElem?_cons_succ, List.getElem?_cons_zero]; rfl)
            case hy78 => (refine Or.inl ⟨by rfl, ?_⟩; intro w hSw; (try dsimp only at hSw); go_simp; try with_reducible rfl)
            case hq78 => exact fun _ _ _ h => h
            try simp only [Act.put, List.setIfInBounds_toArray, List.set_cons_zero, List.set_cons_succ]
            refine wpAnyH_take (i := 15) (oi := ?oi79) (v := ?v79) ?hi79 (by kernel_rfl) (by kernel_rfl) (by kernel_rfl) ?hq79 ?hy79 hHeld ?rest79
            case hi79 => (simp only [List.getElem?_toArray, List.getElem?_cons_succ, List.getElem?_cons_zero]; rfl)
            case hy79 => (refine Or.inl ⟨by rfl, ?_⟩; intro w hSw; (try dsimp only at hSw); go_simp; try with_reducible rfl)
            case hq79 => exact fun _ _ _ h => h
            try simp only [Act.put, List.setIfInBounds_toArray, List.set_cons_zero, List.set_cons_succ]
            refine wpAnyH_take (i := 17) (oi := ?oi80) (v := ?v80) ?hi80 (by kernel_rfl) (by kernel_rfl) (by kernel_rfl) ?hq80 ?hy80 hHeld ?rest80
            case hi80 => (simp only [List.getElem?_toArray, List.getElem?_cons_succ, List.getElem?_cons_zero]; rfl)
            case hy80 => (refine Or.inl ⟨by rfl, ?_⟩; intro w hSw; (try dsimp only at hSw); go_simp; try with_reducible rfl)
            case hq80 => exact fun _ _ _ h => h
            try simp only [Act.put, List.setIfInBounds_toArray, List.set_cons_zero, List.set_cons_succ]
            refine wpAnyH_take (i := 18) (oi := ?oi81) (v := ?v81) ?hi81 (by kernel_rfl) (by kernel_rfl) (by kernel_rfl) ?hq81 ?hy81 hHeld ?rest81
            case hi81 => (simp only [List.getElem?_toArray, List.getElem?_cons_succ, List.getElem?_cons_zero]; rfl)
            case hy81 => (refine Or.inl ⟨by rfl, ?_⟩; intro w hSw; (try dsimp only at hSw); go_simp; try with_reducible rfl)
            case hq81 => exact fun _ _ _ h => h
            try simp only [Act.put, List.setIfInBounds_toArray, List.set_cons_zero, List.set_cons_succ]
            refine wpAnyH_take (i := 19) (oi := ?oi82) (v := ?v82) ?hi82 (by kernel_rfl) (by kernel_rfl) (by kernel_rfl) ?hq82 ?hy82 hHeld ?rest82
            case hi82 => (simp only [List.getElem?_toArray, List.getElem?_cons_succ, List.getElem?_cons_zero]; rfl)
            case hy82 => (refine Or.inl ⟨by rfl, ?_⟩; intro w hSw; (try dsimp only at hSw); go_simp; try with_reducible rfl)
            case hq82 => exact fun _ _ _ h => h
            try simp only [Act.put, List.setIfInBounds_toArray, List.set_cons_zero, List.set_cons_succ]
            refine wpAnyH_take (i := 20) (oi := ?oi83) (v := ?v83) ?hi83 (by kernel_rfl) (by kernel_rfl) (by kernel_rfl) ?hq83 ?hy83 hHeld ?rest83
            case hi83 => (simp only [List.getElem?_toArray, List.getElem?_cons_succ, List.getElem?_cons_zero]; rfl)
            case hy83 => (refine Or.inl ⟨by rfl, ?_⟩; intro w hSw; (try dsimp only at hSw); go_simp; try with_reducible rfl)
            case hq83 => exact fun _ _ _ h => h
            try simp only [Act.put, List.setIfInBounds_toArray, List.set_cons_zero, List.set_cons_succ]
            refine wpAnyH_take (i := 21) (oi := ?oi84) (v := ?v84) ?hi84 (by kernel_rfl) (by kernel_rfl) (by kernel_rfl) ?hq84 ?hy84 hHeld ?rest84
            case hi84 => (simp only [List.getElem?_toArray, List.getElem?_cons_succ, List.getElem?_cons_zero]; rfl)
            case hy84 => (refine Or.inl ⟨by rfl, ?_⟩; intro w hSw; (try dsimp only at hSw); go_simp; try with_reducible rfl)
            case hq84 => exact fun _ _ _ h => h
            try simp only [Act.put, List.setIfInBounds_toArray, List.set_cons_zero, List.set_cons_succ]
            refine wpAnyH_take (i := 22) (oi := ?oi85) (v := ?v85) ?hi85 (by kernel_rfl) (by kernel_rfl) (by kernel_rfl) ?hq85 ?hy85 hHeld ?rest85
            case hi85 => (simp only [List.getElem?_toArray, List.getElem?_cons_succ, List.getElem?_cons_zero]; rfl)
            case hy85 => (refine Or.inl ⟨by rfl, ?_⟩; intro w hSw; (try dsimp only at hSw); go_simp; try with_reducible rfl)
            case hq85 => exact fun _ _ _ h => h
            try simp only [Act.put, List.setIfInBounds_toArray, List.set_cons_zero, List.set_cons_succ]
            refine wpAnyH_take (i := 23) (oi := ?oi86) (v := ?v86) ?hi86 (by kernel_rfl) (by kernel_rfl) (by kernel_rfl) ?hq86 ?hy86 hHeld ?rest86
            case hi86 => (simp only [List.getElem?_toArray, List.getElem?_cons_succ, List.getElem?_cons_zero]; rfl)
            case hy86 => (refine Or.inl ⟨by rfl, ?_⟩; intro w hSw; (try dsimp only at hSw); go_simp; try with_reducible rfl)
            case hq86 => exact fun _ _ _ h => h
            try simp only [Act.put, List.setIfInBounds_toArray, List.set_cons_zero, List.set_cons_succ]
            refine wpAnyH_ready (rs := [16]) (by kernel_rfl) (by simp) ?_
            refine AllReadyH.cons (o := ?oi87) ?hi87 (fun K hK => ?_) AllReadyH.nil
            case hi87 => (simp only [List.getElem?_toArray, List.getElem?_cons_succ, List.getElem?_cons_zero]; rfl)
            go_simp
            go_at_call 15
            refine (m9_suits (w := w15) H FG.out FX.out HT.out HG.out HXI.out S1.out).mono ?_
            rintro e w16 ⟨rfl, hb⟩
            have HYq := Lib.hid (HY.out.trans (hb.mono HY.out.size))
            clear HY
            have HY := HYq
            clear HYq
            have HBq := Lib.hid (HB.out.trans (hb.mono HB.out.size))
            clear HB
            have HB := HBq
            clear HBq
            have HR1q := Lib.hid (HR1.out.trans (hb.mono HR1.out.size))
            clear HR1
            have HR1 := HR1q
            clear HR1q
            have HGq := Lib.hid (HG.out.next hb)
            clear HG
            have HG := HGq
            clear HGq
            have FGq := Lib.hid (FG.out.next hb)
            clear FG
            have FG := FGq
            clear FGq
            have FFq := Lib.hid (FF.out.next hb)
            clear FF
            have FF := FFq
            clear FFq
            have FMq := Lib.hid (FM.out.next hb)
            clear FM
            have FM := FMq
            clear FMq
            have BXq := Lib.hid (BX.out.next hb)
            clear BX
            have BX := BXq
            clear BXq
            have BTq := Lib.hid (BT.out.next hb)
            clear BT
            have BT := BTq
            clear BTq
            have FLq := Lib.hid (FL.out.next hb)
            clear FL
            have FL := FLq
            clear FLq
            have FXq := Lib.hid (FX.out.next hb)
            clear FX
            have FX := FXq
            clear FXq
            have FYq := Lib.hid (FY.out.next hb)
            clear FY
            have FY := FYq
            clear FYq
            have FNq := Lib.hid (FN.out.next hb)
            clear FN
            have FN := FNq
            clear FNq
            have CLq := Lib.hid (CL.out.next hb)
            clear CL
            have CL := CLq
            clear CLq
            have FUq := Lib.hid (FU.out.next hb)
            clear FU
            have FU := FUq
            clear FUq
            clear hb
            try go_wp2_with fail
            clear hHeld
            refine hK.out _ _ (HKEEP.out _ HY.out) (fun hHeld => ?_)
            clear hK K
            try simp only [Act.put, List.setIfInBounds_toArray, List.set_cons_zero, List.set_cons_succ]
            refine wpAnyH_ready (rs := [24]) (by kernel_rfl) (by simp) ?_
            refine AllReadyH.cons (o := ?oi88) ?hi88 (fun K hK => ?_) AllReadyH.nil
            case hi88 => (simp only [List.getElem?_toArray, List.getElem?_cons_succ, List.getElem?_cons_zero]; rfl)
            go_simp
            go_at_call 15
            refine (m9_suits (w := w16) H FG.out FF.out HT.out HG.out HXI.out S2.out).mono ?_
            rintro e w17 ⟨rfl, hb⟩
            have HYq := Lib.hid (HY.out.trans (hb.mono HY.out.size))
            clear HY
            have HY := HYq
            clear HYq
            have HBq := Lib.hid (HB.out.trans (hb.mono HB.out.size))
            clear HB
            have HB := HBq
            clear HBq
            have HR1q := Lib.hid (HR1.out.trans (hb.mono HR1.out.size))
            clear HR1
            have HR1 := HR1q
            clear HR1q
            have HGq := Lib.hid (HG.out.next hb)
            clear HG
            have HG := HGq
            clear HGq
            have FGq := Lib.hid (FG.out.next hb)
            clear FG
            have FG := FGq
            clear FGq
            have FFq := Lib.hid (FF.out.next hb)
            clear FF
            have FF := FFq
            clear FFq
            have FMq := Lib.hid (FM.out.next hb)
            clear FM
            have FM := FMq
            clear FMq
            have BXq := Lib.hid (BX.out.next hb)
            clear BX
            have BX := BXq
            clear BXq
            have BTq := Lib.hid (BT.out.next hb)
            clear BT
            have BT := BTq
            clear BTq
            have FLq := Lib.hid (FL.out.next hb)
            clear FL
            have FL := FLq
            clear FLq
            have FXq := Lib.hid (FX.out.next hb)
            clear FX
            have FX := FXq
            clear FXq
            have FYq := Lib.hid (FY.out.next hb)
            clear FY
            have FY := FYq
            clear FYq
            have FNq := Lib.hid (FN.out.next hb)
            clear FN
            have FN := FNq
            clear FNq
            have CLq := Lib.hid (CL.out.next hb)
            clear CL
            have CL := CLq
            clear CLq
            have FUq := Lib.hid (FU.out.next hb)
            clear FU
            have FU := FUq
            clear FUq
            clear hb
            try go_wp2_with fail
            clear hHeld
            refine hK.out _ _ (HKEEP.out _ HY.out) (fun hHeld => ?_)
            clear hK K
            try simp only [Act.put, List.setIfInBounds_toArray, List.set_cons_zero, List.set_cons_succ]
            refine wpAnyH_take (i := 25) (oi := ?oi89) (v := ?v89) ?hi89 (by kernel_rfl) (by kernel_rfl) (by kernel_rfl) ?hq89 ?hy89 hHeld ?rest89
            case hi89 => (simp only [List.getElem?_toArray, List.getElem?_cons_succ, List.getElem?_cons_zero]; rfl)
            case hy89 => (refine Or.inl ⟨by rfl, ?_⟩; intro w hSw; (try dsimp only at hSw); go_simp; try with_reducible rfl)
            case hq89 => exact fun _ _ _ h => h
            try simp only [Act.put, List.setIfInBounds_toArray, List.set_cons_zero, List.set_cons_succ]
            refine wpAnyH_take (i := 26) (oi := ?oi90) (v := ?v90) ?hi90 (by kernel_rfl) (by kernel_rfl) (by kernel_rfl) ?hq90 ?hy90 hHeld ?rest90
            case hi90 => (simp only [List.getElem?_toArray, List.getElem?_cons_succ, List.getElem?_cons_zero]; rfl)
            case hy90 => (refine Or.inl ⟨by rfl, ?_⟩; intro w hSw; (try dsimp only at hSw); go_simp; try with_reducible rfl)
            case hq90 => exact fun _ _ _ h => h
            try simp only [Act.put, List.setIfInBounds_toArray, List.set_cons_zero, List.set_cons_succ]
            refine wpAnyH_done (by kernel_rfl) ?_ _
            clear HKEEP HY hHeld
            go_wp2
            go_roundw
            case rel => exact ⟨k + 1, by omega, by go_num, HR1.out⟩
            case measure => simp [intOf]; omega
          · go_wp2
            have HKEEP : Hid (∀ wx, Below wr.drew.heap.size wr.drew wx → wx.cell? ⟨w.heap.size + 1, 0, none⟩ = some (.int .i64 t.nodes) ∧ wx.cell? ⟨w.heap.size + 1, 1, none⟩ = some (.int .i64 t.cores) ∧ wx.cell? ⟨w.heap.size + 1, 2, none⟩ = some (.int .i64 t.gpus) ∧ wx.cell? ⟨w.heap.size + 1, 3, none⟩ = some (.string t.tag) ∧ wx.cell? ⟨w.heap.size + 1, 4, none⟩ = some (.bool t.whole) ∧ wx.cell? ⟨w.heap.size + 1, 5, none⟩ = some (.int .i64 t.long) ∧ wx.cell? ⟨w.heap.size + 1, 6, none⟩ = some (.int .i64 t.prio) ∧ wx.cell? ⟨bl, ol + k, none⟩ = some (.int .i64 (x : Int))) := Lib.hid (fun wx hz' => by
              have hz := (bel_drew1 wr).trans (hz'.mono (bel_drew1 wr).size)
              exact ⟨keep_cell BT.out.lt BT.out.c0 hz, keep_cell BT.out.lt BT.out.c1 hz, keep_cell BT.out.lt BT.out.c2 hz, keep_cell BT.out.lt BT.out.c3 hz, keep_cell BT.out.lt BT.out.c4 hz, keep_cell BT.out.lt BT.out.c5 hz, keep_cell BT.out.lt BT.out.c6 hz, keep_cell CL.out.lt CL.out.at' hz⟩)
            have hd := bel_drew1 wr
            have HBq := Lib.hid (HB.out.trans (hd.mono HB.out.size))
            clear HB
            have HB := HBq
            clear HBq
            have HR1q := Lib.hid (HR1.out.trans (hd.mono HR1.out.size))
            clear HR1
            have HR1 := HR1q
            clear HR1q
            have HGq := Lib.hid (HG.out.next hd)
            clear HG
            have HG := HGq
            clear HGq
            have FGq := Lib.hid (FG.out.next hd)
            clear FG
            have FG := FGq
            clear FGq
            have FFq := Lib.hid (FF.out.next hd)
            clear FF
            have FF := FFq
            clear FFq
            have FMq := Lib.hid (FM.out.next hd)
            clear FM
            have FM := FMq
            clear FMq
            have BXq := Lib.hid (BX.out.next hd)
            clear BX
            have BX := BXq
            clear BXq
            have BTq := Lib.hid (BT.out.next hd)
            clear BT
            have BT := BTq
            clear BTq
            have FLq := Lib.hid (FL.out.next hd)
            clear FL
            have FL := FLq
            clear FLq
            have FXq := Lib.hid (FX.out.next hd)
            clear FX
            have FX := FXq
            clear FXq
            have FYq := Lib.hid (FY.out.next hd)
            clear FY
            have FY := FYq
            clear FYq
            have FNq := Lib.hid (FN.out.next hd)
            clear FN
            have FN := FNq
            clear FNq
            have CLq := Lib.hid (CL.out.next hd)
            clear CL
            have CL := CLq
            clear CLq
            clear hd
            have HY := Lib.hid (Below.refl wr.drew.heap.size wr.drew)
            refine wp_region_held_drew (S := fun w' => w'.cell? ⟨w.heap.size + 1, 0, none⟩ = some (.int .i64 t.nodes) ∧ w'.cell? ⟨w.heap.size + 1, 1, none⟩ = some (.int .i64 t.cores) ∧ w'.cell? ⟨w.heap.size + 1, 2, none⟩ = some (.int .i64 t.gpus) ∧ w'.cell? ⟨w.heap.size + 1, 3, none⟩ = some (.string t.tag) ∧ w'.cell? ⟨w.heap.size + 1, 4, none⟩ = some (.bool t.whole) ∧ w'.cell? ⟨w.heap.size + 1, 5, none⟩ = some (.int .i64 t.long) ∧ w'.cell? ⟨w.heap.size + 1, 6, none⟩ = some (.int .i64 t.prio) ∧ w'.cell? ⟨bl, ol + k, none⟩ = some (.int .i64 (x : Int))) (by kernel_rfl) (HKEEP.out _ (Below.refl _ _)) (fun hHeld => ?_)
            refine wpAnyH_take (i := 0) (oi := ?oi91) (v := ?v91) ?hi91 (by kernel_rfl) (by kernel_rfl) (by kernel_rfl) ?hq91 ?hy91 hHeld ?rest91
            case hi91 => (simp only [List.getElem?_toArray, List.getElem?_cons_zero]; rfl)
            case hy91 => (refine Or.inl ⟨by rfl, ?_⟩; intro w hSw; (try dsimp only at hSw); go_simp; try with_reducible rfl)
            case hq91 => exact fun _ _ _ h => h
            try simp only [Act.put, List.setIfInBounds_toArray, List.set_cons_zero, List.set_cons_succ]
            refine wpAnyH_take (i := 1) (oi := ?oi92) (v := ?v92) ?hi92 (by kernel_rfl) (by kernel_rfl) (by kernel_rfl) ?hq92 ?hy92 hHeld ?rest92
            case hi92 => (simp only [List.getElem?_toArray, List.getElem?_cons_succ, List.getElem?_cons_zero]; rfl)
            case hy92 => (refine Or.inl ⟨by rfl, ?_⟩; intro w hSw; (try dsimp only at hSw); go_simp; try with_reducible rfl)
            case hq92 => exact fun _ _ _ h => h
            try simp only [Act.put, List.setIfInBounds_toArray, List.set_cons_zero, List.set_cons_succ]
            refine wpAnyH_take (i := 2) (oi := ?oi93) (v := ?v93) ?hi93 (by kernel_rfl) (by kernel_rfl) (by kernel_rfl) ?hq93 ?hy93 hHeld ?rest93
            case hi93 => (simp only [List.getElem?_toArray, List.getElem?_cons_succ, List.getElem?_cons_zero]; rfl)
            case hy93 => (refine Or.inl ⟨by rfl, ?_⟩; intro w hSw; (try dsimp only at hSw); go_simp; try with_reducible rfl)
            case hq93 => exact fun _ _ _ h => h
            try simp only [Act.put, List.setIfInBounds_toArray, List.set_cons_zero, List.set_cons_succ]
            refine wpAnyH_take (i := 3) (oi := ?oi94) (v := ?v94) ?hi94 (by kernel_rfl) (by kernel_rfl) (by kernel_rfl) ?hq94 ?hy94 hHeld ?rest94
            case hi94 => (simp only [List.getElem?_toArray, List.getElem?_cons_succ, List.getElem?_cons_zero]; rfl)
            case hy94 => (refine Or.inl ⟨by rfl, ?_⟩; intro w hSw; (try dsimp only at hSw); go_simp; try with_reducible rfl)
            case hq94 => exact fun _ _ _ h => h
            try simp only [Act.put, List.setIfInBounds_toArray, List.set_cons_zero, List.set_cons_succ]
            refine wpAnyH_take (i := 4) (oi := ?oi95) (v := ?v95) ?hi95 (by kernel_rfl) (by kernel_rfl) (by kernel_rfl) ?hq95 ?hy95 hHeld ?rest95
            case hi95 => (simp only [List.getElem?_toArray, List.getElem?_cons_succ, List.getElem?_cons_zero]; rfl)
            case hy95 => (refine Or.inl ⟨by rfl, ?_⟩; intro w hSw; (try dsimp only at hSw); go_simp; try with_reducible rfl)
            case hq95 => exact fun _ _ _ h => h
            try simp only [Act.put, List.setIfInBounds_toArray, List.set_cons_zero, List.set_cons_succ]
            refine wpAnyH_take (i := 5) (oi := ?oi96) (v := ?v96) ?hi96 (by kernel_rfl) (by kernel_rfl) (by kernel_rfl) ?hq96 ?hy96 hHeld ?rest96
            case hi96 => (simp only [List.getElem?_toArray, List.getElem?_cons_succ, List.getElem?_cons_zero]; rfl)
            case hy96 => (refine Or.inl ⟨by rfl, ?_⟩; intro w hSw; (try dsimp only at hSw); go_simp; try with_reducible rfl)
            case hq96 => exact fun _ _ _ h => h
            try simp only [Act.put, List.setIfInBounds_toArray, List.set_cons_zero, List.set_cons_succ]
            refine wpAnyH_ready (rs := [6]) (by kernel_rfl) (by simp) ?_
            refine AllReadyH.cons (o := ?oi97) ?hi97 (fun K hK => ?_) AllReadyH.nil
            case hi97 => (simp only [List.getElem?_toArray, List.getElem?_cons_succ, List.getElem?_cons_zero]; rfl)
            go_simp
            go_at_call 13
            refine (calls_ipost (GO.under _ _ _ _ _ wr.drew FG.out HXI.out HG.out) HU.out).mono ?_
            rintro e w14 ⟨⟨Au, cu, rfl, hru, hnilu, hcu⟩, hb⟩
            have HYq := Lib.hid (HY.out.trans (hb.mono HY.out.size))
            clear HY
            have HY := HYq
            clear HYq
            have HBq := Lib.hid (HB.out.trans (hb.mono HB.out.size))
            clear HB
            have HB := HBq
            clear HBq
            have HR1q := Lib.hid (HR1.out.trans (hb.mono HR1.out.size))
            clear HR1
            have HR1 := HR1q
            clear HR1q
            have HGq := Lib.hid (HG.out.next hb)
            clear HG
            have HG := HGq
            clear HGq
            have FGq := Lib.hid (FG.out.next hb)
            clear FG
            have FG := FGq
            clear FGq
            have FFq := Lib.hid (FF.out.next hb)
            clear FF
            have FF := FFq
            clear FFq
            have FMq := Lib.hid (FM.out.next hb)
            clear FM
            have FM := FMq
            clear FMq
            have BXq := Lib.hid (BX.out.next hb)
            clear BX
            have BX := BXq
            clear BXq
            have BTq := Lib.hid (BT.out.next hb)
            clear BT
            have BT := BTq
            clear BTq
            have FLq := Lib.hid (FL.out.next hb)
            clear FL
            have FL := FLq
            clear FLq
            have FXq := Lib.hid (FX.out.next hb)
            clear FX
            have FX := FXq
            clear FXq
            have FYq := Lib.hid (FY.out.next hb)
            clear FY
            have FY := FYq
            clear FYq
            have FNq := Lib.hid (FN.out.next hb)
            clear FN
            have FN := FNq
            clear FNq
            have CLq := Lib.hid (CL.out.next hb)
            clear CL
            have CL := CLq
            clear CLq
            clear hb
            have FU := Lib.hid (LAsk.mk hru hnilu hcu (by have := HUN.out; omega) HUI.out)
            try go_wp2_with fail
            clear hHeld
            refine hK.out _ _ (HKEEP.out _ HY.out) (fun hHeld => ?_)
            clear hK K
            try simp only [Act.put, List.setIfInBounds_toArray, List.set_cons_zero, List.set_cons_succ]
            refine wpAnyH_ready (rs := [7]) (by kernel_rfl) (by simp) ?_
            refine AllReadyH.cons (o := ?oi98) ?hi98 (fun K hK => ?_) AllReadyH.nil
            case hi98 => (simp only [List.getElem?_toArray, List.getElem?_cons_succ, List.getElem?_cons_zero]; rfl)
            go_simp
            go_at_call 20
            refine (s_apart (w := w14) FL.out.reads FU.out.reads (ml300 FL.out.few) (ml300 FU.out.few) HAU.out).mono ?_
            rintro e w15 ⟨rfl, hb⟩
            have HYq := Lib.hid (HY.out.trans (hb.mono HY.out.size))
            clear HY
            have HY := HYq
            clear HYq
            have HBq := Lib.hid (HB.out.trans (hb.mono HB.out.size))
            clear HB
            have HB := HBq
            clear HBq
            have HR1q := Lib.hid (HR1.out.trans (hb.mono HR1.out.size))
            clear HR1
            have HR1 := HR1q
            clear HR1q
            have HGq := Lib.hid (HG.out.next hb)
            clear HG
            have HG := HGq
            clear HGq
            have FGq := Lib.hid (FG.out.next hb)
            clear FG
            have FG := FGq
            clear FGq
            have FFq := Lib.hid (FF.out.next hb)
            clear FF
            have FF := FFq
            clear FFq
            have FMq := Lib.hid (FM.out.next hb)
            clear FM
            have FM := FMq
            clear FMq
            have BXq := Lib.hid (BX.out.next hb)
            clear BX
            have BX := BXq
            clear BXq
            have BTq := Lib.hid (BT.out.next hb)
            clear BT
            have BT := BTq
            clear BTq
            have FLq := Lib.hid (FL.out.next hb)
            clear FL
            have FL := FLq
            clear FLq
            have FXq := Lib.hid (FX.out.next hb)
            clear FX
            have FX := FXq
            clear FXq
            have FYq := Lib.hid (FY.out.next hb)
            clear FY
            have FY := FYq
            clear FYq
            have FNq := Lib.hid (FN.out.next hb)
            clear FN
            have FN := FNq
            clear FNq
            have CLq := Lib.hid (CL.out.next hb)
            clear CL
            have CL := CLq
            clear CLq
            have FUq := Lib.hid (FU.out.next hb)
            clear FU
            have FU := FUq
            clear FUq
            clear hb
            try go_wp2_with fail
            clear hHeld
            refine hK.out _ _ (HKEEP.out _ HY.out) (fun hHeld => ?_)
            clear hK K
            try simp only [Act.put, List.setIfInBounds_toArray, List.set_cons_zero, List.set_cons_succ]
            refine wpAnyH_take (i := 8) (oi := ?oi99) (v := ?v99) ?hi99 (by kernel_rfl) (by kernel_rfl) (by kernel_rfl) ?hq99 ?hy99 hHeld ?rest99
            case hi99 => (simp only [List.getElem?_toArray, List.getElem?_cons_succ, List.getElem?_cons_zero]; rfl)
            case hy99 => (refine Or.inl ⟨by rfl, ?_⟩; intro w hSw; (try dsimp only at hSw); go_simp; try with_reducible rfl)
            case hq99 => exact fun _ _ _ h => h
            try simp only [Act.put, List.setIfInBounds_toArray, List.set_cons_zero, List.set_cons_succ]
            refine wpAnyH_take (i := 9) (oi := ?oi100) (v := ?v100) ?hi100 (by kernel_rfl) (by kernel_rfl) (by kernel_rfl) ?hq100 ?hy100 hHeld ?rest100
            case hi100 => (simp only [List.getElem?_toArray, List.getElem?_cons_succ, List.getElem?_cons_zero]; rfl)
            case hy100 => (refine Or.inl ⟨by rfl, ?_⟩; intro w hSw; (try dsimp only at hSw); go_simp; try with_reducible rfl)
            case hq100 => exact fun _ _ _ h => h
            try simp only [Act.put, List.setIfInBounds_toArray, List.set_cons_zero, List.set_cons_succ]
            refine wpAnyH_take (i := 10) (oi := ?oi101) (v := ?v101) ?hi101 (by kernel_rfl) (by kernel_rfl) (by kernel_rfl) ?hq101 ?hy101 hHeld ?rest101
            case hi101 => (simp only [List.getElem?_toArray, List.getElem?_cons_succ, List.getElem?_cons_zero]; rfl)
            case hy101 => (refine Or.inl ⟨by rfl, ?_⟩; intro w hSw; (try dsimp only at hSw); go_simp; try with_reducible rfl)
            case hq101 => exact fun _ _ _ h => h
            try simp only [Act.put, List.setIfInBounds_toArray, List.set_cons_zero, List.set_cons_succ]
            refine wpAnyH_take (i := 11) (oi := ?oi102) (v := ?v102) ?hi102 (by kernel_rfl) (by kernel_rfl) (by kernel_rfl) ?hq102 ?hy102 hHeld ?rest102
            case hi102 => (simp only [List.getElem?_toArray, List.getElem?_cons_succ, List.getElem?_cons_zero]; rfl)
            case hy102 => (refine Or.inl ⟨by rfl, ?_⟩; intro w hSw; (try dsimp only at hSw); go_simp; try with_reducible rfl)
            case hq102 => exact fun _ _ _ h => h
            try simp only [Act.put, List.setIfInBounds_toArray, List.set_cons_zero, List.set_cons_succ]
            refine wpAnyH_take (i := 12) (oi := ?oi103) (v := ?v103) ?hi103 (by kernel_rfl) (by kernel_rfl) (by kernel_rfl) ?hq103 ?hy103 hHeld ?rest103
            case hi103 => (simp only [List.getElem?_toArray, List.getElem?_cons_succ, List.getElem?_cons_zero]; rfl)
            case hy103 => (refine Or.inl ⟨by rfl, ?_⟩; intro w hSw; (try dsimp only at hSw); go_simp; try with_reducible rfl)
            case hq103 => exact fun _ _ _ h => h
            try simp only [Act.put, List.setIfInBounds_toArray, List.set_cons_zero, List.set_cons_succ]
            refine wpAnyH_take (i := 13) (oi := ?oi104) (v := ?v104) ?hi104 (by kernel_rfl) (by kernel_rfl) (by kernel_rfl) ?hq104 ?hy104 hHeld ?rest104
            case hi104 => (simp only [List.getElem?_toArray, List.getElem?_cons_succ, List.getElem?_cons_zero]; rfl)
            case hy104 => (refine Or.inl ⟨by rfl, ?_⟩; intro w hSw; (try dsimp only at hSw); go_simp; try with_reducible rfl)
            case hq104 => exact fun _ _ _ h => h
            try simp only [Act.put, List.setIfInBounds_toArray, List.set_cons_zero, List.set_cons_succ]
            refine wpAnyH_take (i := 14) (oi := ?oi105) (v := ?v105) ?hi105 (by kernel_rfl) (by kernel_rfl) (by kernel_rfl) ?hq105 ?hy105 hHeld ?rest105
            case hi105 => (simp only [List.getElem?_toArray, List.getElem?_cons_succ, List.getElem?_cons_zero]; rfl)
            case hy105 => (refine Or.inl ⟨by rfl, ?_⟩; intro w hSw; (try dsimp only at hSw); go_simp; try with_reducible rfl)
            case hq105 => exact fun _ _ _ h => h
            try simp only [Act.put, List.setIfInBounds_toArray, List.set_cons_zero, List.set_cons_succ]
            refine wpAnyH_take (i := 15) (oi := ?oi106) (v := ?v106) ?hi106 (by kernel_rfl) (by kernel_rfl) (by kernel_rfl) ?hq106 ?hy106 hHeld ?rest106
            case hi106 => (simp only [List.getElem?_toArray, List.getElem?_cons_succ, List.getElem?_cons_zero]; rfl)
            case hy106 => (refine Or.inl ⟨by rfl, ?_⟩; intro w hSw; (try dsimp only at hSw); go_simp; try with_reducible rfl)
            case hq106 => exact fun _ _ _ h => h
            try simp only [Act.put, List.setIfInBounds_toArray, List.set_cons_zero, List.set_cons_succ]
            refine wpAnyH_take (i := 17) (oi := ?oi107) (v := ?v107) ?hi107 (by kernel_rfl) (by kernel_rfl) (by kernel_rfl) ?hq107 ?hy107 hHeld ?rest107
            case hi107 => (simp only [List.getElem?_toArray, List.getElem?_cons_succ, List.getElem?_cons_zero]; rfl)
            case hy107 => (refine Or.inl ⟨by rfl, ?_⟩; intro w hSw; (try dsimp only at hSw); go_simp; try with_reducible rfl)
            case hq107 => exact fun _ _ _ h => h
            try simp only [Act.put, List.setIfInBounds_toArray, List.set_cons_zero, List.set_cons_succ]
            refine wpAnyH_take (i := 18) (oi := ?oi108) (v := ?v108) ?hi108 (by kernel_rfl) (by kernel_rfl) (by kernel_rfl) ?hq108 ?hy108 hHeld ?rest108
            case hi108 => (simp only [List.getElem?_toArray, List.getElem?_cons_succ, List.getElem?_cons_zero]; rfl)
            case hy108 => (refine Or.inl ⟨by rfl, ?_⟩; intro w hSw; (try dsimp only at hSw); go_simp; try with_reducible rfl)
            case hq108 => exact fun _ _ _ h => h
            try simp only [Act.put, List.setIfInBounds_toArray, List.set_cons_zero, List.set_cons_succ]
            refine wpAnyH_take (i := 19) (oi := ?oi109) (v := ?v109) ?hi109 (by kernel_rfl) (by kernel_rfl) (by kernel_rfl) ?hq109 ?hy109 hHeld ?rest109
            case hi109 => (simp only [List.getElem?_toArray, List.getElem?_cons_succ, List.getElem?_cons_zero]; rfl)
            case hy109 => (refine Or.inl ⟨by rfl, ?_⟩; intro w hSw; (try dsimp only at hSw); go_simp; try with_reducible rfl)
            case hq109 => exact fun _ _ _ h => h
            try simp only [Act.put, List.setIfInBounds_toArray, List.set_cons_zero, List.set_cons_succ]
            refine wpAnyH_take (i := 20) (oi := ?oi110) (v := ?v110) ?hi110 (by kernel_rfl) (by kernel_rfl) (by kernel_rfl) ?hq110 ?hy110 hHeld ?rest110
            case hi110 => (simp only [List.getElem?_toArray, List.getElem?_cons_succ, List.getElem?_cons_zero]; rfl)
            case hy110 => (refine Or.inl ⟨by rfl, ?_⟩; intro w hSw; (try dsimp only at hSw); go_simp; try with_reducible rfl)
            case hq110 => exact fun _ _ _ h => h
            try simp only [Act.put, List.setIfInBounds_toArray, List.set_cons_zero, List.set_cons_succ]
            refine wpAnyH_take (i := 21) (oi := ?oi111) (v := ?v111) ?hi111 (by kernel_rfl) (by kernel_rfl) (by kernel_rfl) ?hq111 ?hy111 hHeld ?rest111
            case hi111 => (simp only [List.getElem?_toArray, List.getElem?_cons_succ, List.getElem?_cons_zero]; rfl)
            case hy111 => (refine Or.inl ⟨by rfl, ?_⟩; intro w hSw; (try dsimp only at hSw); go_simp; try with_reducible rfl)
            case hq111 => exact fun _ _ _ h => h
            try simp only [Act.put, List.setIfInBounds_toArray, List.set_cons_zero, List.set_cons_succ]
            refine wpAnyH_take (i := 22) (oi := ?oi112) (v := ?v112) ?hi112 (by kernel_rfl) (by kernel_rfl) (by kernel_rfl) ?hq112 ?hy112 hHeld ?rest112
            case hi112 => (simp only [List.getElem?_toArray, List.getElem?_cons_succ, List.getElem?_cons_zero]; rfl)
            case hy112 => (refine Or.inl ⟨by rfl, ?_⟩; intro w hSw; (try dsimp only at hSw); go_simp; try with_reducible rfl)
            case hq112 => exact fun _ _ _ h => h
            try simp only [Act.put, List.setIfInBounds_toArray, List.set_cons_zero, List.set_cons_succ]
            refine wpAnyH_take (i := 23) (oi := ?oi113) (v := ?v113) ?hi113 (by kernel_rfl) (by kernel_rfl) (by kernel_rfl) ?hq113 ?hy113 hHeld ?rest113
            case hi113 => (simp only [List.getElem?_toArray, List.getElem?_cons_succ, List.getElem?_cons_zero]; rfl)
            case hy113 => (refine Or.inl ⟨by rfl, ?_⟩; intro w hSw; (try dsimp only at hSw); go_simp; try with_reducible rfl)
            case hq113 => exact fun _ _ _ h => h
            try simp only [Act.put, List.setIfInBounds_toArray, List.set_cons_zero, List.set_cons_succ]
            refine wpAnyH_ready (rs := [16]) (by kernel_rfl) (by simp) ?_
            refine AllReadyH.cons (o := ?oi114) ?hi114 (fun K hK => ?_) AllReadyH.nil
            case hi114 => (simp only [List.getElem?_toArray, List.getElem?_cons_succ, List.getElem?_cons_zero]; rfl)
            go_simp
            go_at_call 15
            refine (m9_suits (w := w15) H FG.out FX.out HT.out HG.out HXI.out S1.out).mono ?_
            rintro e w16 ⟨rfl, hb⟩
            have HYq := Lib.hid (HY.out.trans (hb.mono HY.out.size))
            clear HY
            have HY := HYq
            clear HYq
            have HBq := Lib.hid (HB.out.trans (hb.mono HB.out.size))
            clear HB
            have HB := HBq
            clear HBq
            have HR1q := Lib.hid (HR1.out.trans (hb.mono HR1.out.size))
            clear HR1
            have HR1 := HR1q
            clear HR1q
            have HGq := Lib.hid (HG.out.next hb)
            clear HG
            have HG := HGq
            clear HGq
            have FGq := Lib.hid (FG.out.next hb)
            clear FG
            have FG := FGq
            clear FGq
            have FFq := Lib.hid (FF.out.next hb)
            clear FF
            have FF := FFq
            clear FFq
            have FMq := Lib.hid (FM.out.next hb)
            clear FM
            have FM := FMq
            clear FMq
            have BXq := Lib.hid (BX.out.next hb)
            clear BX
            have BX := BXq
            clear BXq
            have BTq := Lib.hid (BT.out.next hb)
            clear BT
            have BT := BTq
            clear BTq
            have FLq := Lib.hid (FL.out.next hb)
            clear FL
            have FL := FLq
            clear FLq
            have FXq := Lib.hid (FX.out.next hb)
            clear FX
            have FX := FXq
            clear FXq
            have FYq := Lib.hid (FY.out.next hb)
            clear FY
            have FY := FYq
            clear FYq
            have FNq := Lib.hid (FN.out.next hb)
            clear FN
            have FN := FNq
            clear FNq
            have CLq := Lib.hid (CL.out.next hb)
            clear CL
            have CL := CLq
            clear CLq
            have FUq := Lib.hid (FU.out.next hb)
            clear FU
            have FU := FUq
            clear FUq
            clear hb
            try go_wp2_with fail
            clear hHeld
            refine hK.out _ _ (HKEEP.out _ HY.out) (fun hHeld => ?_)
            clear hK K
            try simp only [Act.put, List.setIfInBounds_toArray, List.set_cons_zero, List.set_cons_succ]
            refine wpAnyH_ready (rs := [24]) (by kernel_rfl) (by simp) ?_
            refine AllReadyH.cons (o := ?oi115) ?hi115 (fun K hK => ?_) AllReadyH.nil
            case hi115 => (simp only [List.getElem?_toArray, List.getElem?_cons_succ, List.getElem?_cons_zero]; rfl)
            go_simp
            go_at_call 15
            refine (m9_suits (w := w16) H FG.out FF.out HT.out HG.out HXI.out S2.out).mono ?_
            rintro e w17 ⟨rfl, hb⟩
            have HYq := Lib.hid (HY.out.trans (hb.mono HY.out.size))
            clear HY
            have HY := HYq
            clear HYq
            have HBq := Lib.hid (HB.out.trans (hb.mono HB.out.size))
            clear HB
            have HB := HBq
            clear HBq
            have HR1q := Lib.hid (HR1.out.trans (hb.mono HR1.out.size))
            clear HR1
            have HR1 := HR1q
            clear HR1q
            have HGq := Lib.hid (HG.out.next hb)
            clear HG
            have HG := HGq
            clear HGq
            have FGq := Lib.hid (FG.out.next hb)
            clear FG
            have FG := FGq
            clear FGq
            have FFq := Lib.hid (FF.out.next hb)
            clear FF
            have FF := FFq
            clear FFq
            have FMq := Lib.hid (FM.out.next hb)
            clear FM
            have FM := FMq
            clear FMq
            have BXq := Lib.hid (BX.out.next hb)
            clear BX
            have BX := BXq
            clear BXq
            have BTq := Lib.hid (BT.out.next hb)
            clear BT
            have BT := BTq
            clear BTq
            have FLq := Lib.hid (FL.out.next hb)
            clear FL
            have FL := FLq
            clear FLq
            have FXq := Lib.hid (FX.out.next hb)
            clear FX
            have FX := FXq
            clear FXq
            have FYq := Lib.hid (FY.out.next hb)
            clear FY
            have FY := FYq
            clear FYq
            have FNq := Lib.hid (FN.out.next hb)
            clear FN
            have FN := FNq
            clear FNq
            have CLq := Lib.hid (CL.out.next hb)
            clear CL
            have CL := CLq
            clear CLq
            have FUq := Lib.hid (FU.out.next hb)
            clear FU
            have FU := FUq
            clear FUq
            clear hb
            try go_wp2_with fail
            clear hHeld
            refine hK.out _ _ (HKEEP.out _ HY.out) (fun hHeld => ?_)
            clear hK K
            try simp only [Act.put, List.setIfInBounds_toArray, List.set_cons_zero, List.set_cons_succ]
            refine wpAnyH_take (i := 25) (oi := ?oi116) (v := ?v116) ?hi116 (by kernel_rfl) (by kernel_rfl) (by kernel_rfl) ?hq116 ?hy116 hHeld ?rest116
            case hi116 => (simp only [List.getElem?_toArray, List.getElem?_cons_succ, List.getElem?_cons_zero]; rfl)
            case hy116 => (refine Or.inl ⟨by rfl, ?_⟩; intro w hSw; (try dsimp only at hSw); go_simp; try with_reducible rfl)
            case hq116 => exact fun _ _ _ h => h
            try simp only [Act.put, List.setIfInBounds_toArray, List.set_cons_zero, List.set_cons_succ]
            refine wpAnyH_take (i := 26) (oi := ?oi117) (v := ?v117) ?hi117 (by kernel_rfl) (by kernel_rfl) (by kernel_rfl) ?hq117 ?hy117 hHeld ?rest117
            case hi117 => (simp only [List.getElem?_toArray, List.getElem?_cons_succ, List.getElem?_cons_zero]; rfl)
            case hy117 => (refine Or.inl ⟨by rfl, ?_⟩; intro w hSw; (try dsimp only at hSw); go_simp; try with_reducible rfl)
            case hq117 => exact fun _ _ _ h => h
            try simp only [Act.put, List.setIfInBounds_toArray, List.set_cons_zero, List.set_cons_succ]
            refine wpAnyH_done (by kernel_rfl) ?_ _
            clear HKEEP HY hHeld
            go_wp2
            go_roundw
            case rel => exact ⟨k + 1, by omega, by go_num, HR1.out⟩
            case measure => simp [intOf]; omega
      · have hkl : k = L.length := by omega
        have hlt2 : ¬ L.length < L.length := Nat.lt_irrefl _
        rw [hkl]
        clear HR1
        go_wp2
        go_ret
        exact ⟨rfl, HB.out⟩
  | true =>
    go_wp2_with fail
    refine (s_apart FL.out.reads FY.out.reads (ml300 FL.out.few) (ml300 FY.out.few) (HAP.out h3)).mono ?_
    rintro e w13 ⟨rfl, hb⟩
    have HBq := Lib.hid (HB.out.trans (hb.mono HB.out.size))
    clear HB
    have HB := HBq
    clear HBq
    have HGq := Lib.hid (HG.out.next hb)
    clear HG
    have HG := HGq
    clear HGq
    have FGq := Lib.hid (FG.out.next hb)
    clear FG
    have FG := FGq
    clear FGq
    have FFq := Lib.hid (FF.out.next hb)
    clear FF
    have FF := FFq
    clear FFq
    have FMq := Lib.hid (FM.out.next hb)
    clear FM
    have FM := FMq
    clear FMq
    have BXq := Lib.hid (BX.out.next hb)
    clear BX
    have BX := BXq
    clear BXq
    have BTq := Lib.hid (BT.out.next hb)
    clear BT
    have BT := BTq
    clear BTq
    have FLq := Lib.hid (FL.out.next hb)
    clear FL
    have FL := FLq
    clear FLq
    have FXq := Lib.hid (FX.out.next hb)
    clear FX
    have FX := FXq
    clear FXq
    have FYq := Lib.hid (FY.out.next hb)
    clear FY
    have FY := FYq
    clear FYq
    clear hb
    go_wp2_with fail
    refine (calls_ipost (GO.nodes _ _ _ _ _ FG.out HG.out) HL.out).mono ?_
    rintro e w14 ⟨⟨An, cn, rfl, hrn, hniln, hcn⟩, hb⟩
    have HBq := Lib.hid (HB.out.trans (hb.mono HB.out.size))
    clear HB
    have HB := HBq
    clear HBq
    have HGq := Lib.hid (HG.out.next hb)
    clear HG
    have HG := HGq
    clear HGq
    have FGq := Lib.hid (FG.out.next hb)
    clear FG
    have FG := FGq
    clear FGq
    have FFq := Lib.hid (FF.out.next hb)
    clear FF
    have FF := FFq
    clear FFq
    have FMq := Lib.hid (FM.out.next hb)
    clear FM
    have FM := FMq
    clear FMq
    have BXq := Lib.hid (BX.out.next hb)
    clear BX
    have BX := BXq
    clear BXq
    have BTq := Lib.hid (BT.out.next hb)
    clear BT
    have BT := BTq
    clear BTq
    have FLq := Lib.hid (FL.out.next hb)
    clear FL
    have FL := FLq
    clear FLq
    have FXq := Lib.hid (FX.out.next hb)
    clear FX
    have FX := FXq
    clear FXq
    have FYq := Lib.hid (FY.out.next hb)
    clear FY
    have FY := FYq
    clear FYq
    clear hb
    have FN := Lib.hid (LAsk.mk hrn hniln hcn (by have := HNN.out; omega) HNI.out)
    clear hrn hniln hcn
    go_wp2
    go_loopw [19] (fun i wr => ∃ k : Nat, k ≤ L.length ∧ i = .int .i64 k ∧ Below w14.heap.size w14 wr) (fun i _ => L.length - (intOf i).toNat)
    case atStart => exact ⟨0, Nat.zero_le _, rfl, Below.refl _ _⟩
    case round =>
      obtain ⟨k, hk, rfl, hrel⟩ := hrel
      have HR0 := Lib.hid hrel
      have hb := hrel
      clear hrel
      have HBq := Lib.hid (HB.out.trans (hb.mono HB.out.size))
      clear HB
      have HB := HBq
      clear HBq
      have HGq := Lib.hid (HG.out.next hb)
      clear HG
      have HG := HGq
      clear HGq
      have FGq := Lib.hid (FG.out.next hb)
      clear FG
      have FG := FGq
      clear FGq
      have FFq := Lib.hid (FF.out.next hb)
      clear FF
      have FF := FFq
      clear FFq
      have FMq := Lib.hid (FM.out.next hb)
      clear FM
      have FM := FMq
      clear FMq
      have BXq := Lib.hid (BX.out.next hb)
      clear BX
      have BX := BXq
      clear BXq
      have BTq := Lib.hid (BT.out.next hb)
      clear BT
      have BT := BTq
      clear BTq
      have FLq := Lib.hid (FL.out.next hb)
      clear FL
      have FL := FLq
      clear FLq
      have FXq := Lib.hid (FX.out.next hb)
      clear FX
      have FX := FXq
      clear FXq
      have FYq := Lib.hid (FY.out.next hb)
      clear FY
      have FY := FYq
      clear FYq
      have FNq := Lib.hid (FN.out.next hb)
      clear FN
      have FN := FNq
      clear FNq
      clear hb
      have HR1 := Lib.hid HR0.out
      clear HR0
      by_cases hlt : k < L.length
      · obtain ⟨x, hx1, hx2, hx3, _, _⟩ := node_facts R3.out (by rw [HL.out]; exact hlt)
        rw [HL.out] at hx1
        have hsu := fun ha => left_suits (t := t) (x := x) R3.out R1.out HLR.out hx2 ha
        rw [HX.out] at hsu
        have hln := HNN.out
        have hk300 : k < 300 := by omega
        have HXI : Hid (I64 (x : Int)) := Lib.hid (node_i65 R3.out hx2)
        obtain ⟨bl, ol, rfl, hcl⟩ := cell_list FN.out.reads hlt hx1
        have CL := Lib.hid hcl
        have hun := underL_len (g := g) (x : Int)
        have hui := underL_i64 (g := g) (x : Int)
        obtain ⟨U, hU⟩ : ∃ U, underL g (x : Int) = U := ⟨_, rfl⟩
        rw [hU] at hun hui hsu
        have HU := Lib.hid hU
        have HUN := Lib.hid hun
        have HUI := Lib.hid hui
        clear hcl hx1 hU hun hui hln
        cases hau : apartB l U with
        | false =>
          have HAU := Lib.hid hau
          clear hsu hau
          go_wp2
          have HKEEP : Hid (∀ wx, Below wr.drew.heap.size wr.drew wx → wx.cell? ⟨w.heap.size + 1, 0, none⟩ = some (.int .i64 t.nodes) ∧ wx.cell? ⟨w.heap.size + 1, 1, none⟩ = some (.int .i64 t.cores) ∧ wx.cell? ⟨w.heap.size + 1, 2, none⟩ = some (.int .i64 t.gpus) ∧ wx.cell? ⟨w.heap.size + 1, 3, none⟩ = some (.string t.tag) ∧ wx.cell? ⟨w.heap.size + 1, 4, none⟩ = some (.bool t.whole) ∧ wx.cell? ⟨w.heap.size + 1, 5, none⟩ = some (.int .i64 t.long) ∧ wx.cell? ⟨w.heap.size + 1, 6, none⟩ = some (.int .i64 t.prio) ∧ wx.cell? ⟨bl, ol + k, none⟩ = some (.int .i64 (x : Int))) := Lib.hid (fun wx hz' => by
            have hz := (bel_drew1 wr).trans (hz'.mono (bel_drew1 wr).size)
            exact ⟨keep_cell BT.out.lt BT.out.c0 hz, keep_cell BT.out.lt BT.out.c1 hz, keep_cell BT.out.lt BT.out.c2 hz, keep_cell BT.out.lt BT.out.c3 hz, keep_cell BT.out.lt BT.out.c4 hz, keep_cell BT.out.lt BT.out.c5 hz, keep_cell BT.out.lt BT.out.c6 hz, keep_cell CL.out.lt CL.out.at' hz⟩)
          have hd := bel_drew1 wr
          have HBq := Lib.hid (HB.out.trans (hd.mono HB.out.size))
          clear HB
          have HB := HBq
          clear HBq
          have HR1q := Lib.hid (HR1.out.trans (hd.mono HR1.out.size))
          clear HR1
          have HR1 := HR1q
          clear HR1q
          have HGq := Lib.hid (HG.out.next hd)
          clear HG
          have HG := HGq
          clear HGq
          have FGq := Lib.hid (FG.out.next hd)
          clear FG
          have FG := FGq
          clear FGq
          have FFq := Lib.hid (FF.out.next hd)
          clear FF
          have FF := FFq
          clear FFq
          have FMq := Lib.hid (FM.out.next hd)
          clear FM
          have FM := FMq
          clear FMq
          have BXq := Lib.hid (BX.out.next hd)
          clear BX
          have BX := BXq
          clear BXq
          have BTq := Lib.hid (BT.out.next hd)
          clear BT
          have BT := BTq
          clear BTq
          have FLq := Lib.hid (FL.out.next hd)
          clear FL
          have FL := FLq
          clear FLq
          have FXq := Lib.hid (FX.out.next hd)
          clear FX
          have FX := FXq
          clear FXq
          have FYq := Lib.hid (FY.out.next hd)
          clear FY
          have FY := FYq
          clear FYq
          have FNq := Lib.hid (FN.out.next hd)
          clear FN
          have FN := FNq
          clear FNq
          have CLq := Lib.hid (CL.out.next hd)
          clear CL
          have CL := CLq
          clear CLq
          clear hd
          have HY := Lib.hid (Below.refl wr.drew.heap.size wr.drew)
          refine wp_region_held_drew (S := fun w' => w'.cell? ⟨w.heap.size + 1, 0, none⟩ = some (.int .i64 t.nodes) ∧ w'.cell? ⟨w.heap.size + 1, 1, none⟩ = some (.int .i64 t.cores) ∧ w'.cell? ⟨w.heap.size + 1, 2, none⟩ = some (.int .i64 t.gpus) ∧ w'.cell? ⟨w.heap.size + 1, 3, none⟩ = some (.string t.tag) ∧ w'.cell? ⟨w.heap.size + 1, 4, none⟩ = some (.bool t.whole) ∧ w'.cell? ⟨w.heap.size + 1, 5, none⟩ = some (.int .i64 t.long) ∧ w'.cell? ⟨w.heap.size + 1, 6, none⟩ = some (.int .i64 t.prio) ∧ w'.cell? ⟨bl, ol + k, none⟩ = some (.int .i64 (x : Int))) (by kernel_rfl) (HKEEP.out _ (Below.refl _ _)) (fun hHeld => ?_)
          refine wpAnyH_take (i := 0) (oi := ?oi118) (v := ?v118) ?hi118 (by kernel_rfl) (by kernel_rfl) (by kernel_rfl) ?hq118 ?hy118 hHeld ?rest118
          case hi118 => (simp only [List.getElem?_toArray, List.getElem?_cons_zero]; rfl)
          case hy118 => (refine Or.inl ⟨by rfl, ?_⟩; intro w hSw; (try dsimp only at hSw); go_simp; try with_reducible rfl)
          case hq118 => exact fun _ _ _ h => h
          try simp only [Act.put, List.setIfInBounds_toArray, List.set_cons_zero, List.set_cons_succ]
          refine wpAnyH_take (i := 1) (oi := ?oi119) (v := ?v119) ?hi119 (by kernel_rfl) (by kernel_rfl) (by kernel_rfl) ?hq119 ?hy119 hHeld ?rest119
          case hi119 => (simp only [List.getElem?_toArray, List.getElem?_cons_succ, List.getElem?_cons_zero]; rfl)
          case hy119 => (refine Or.inl ⟨by rfl, ?_⟩; intro w hSw; (try dsimp only at hSw); go_simp; try with_reducible rfl)
          case hq119 => exact fun _ _ _ h => h
          try simp only [Act.put, List.setIfInBounds_toArray, List.set_cons_zero, List.set_cons_succ]
          refine wpAnyH_take (i := 2) (oi := ?oi120) (v := ?v120) ?hi120 (by kernel_rfl) (by kernel_rfl) (by kernel_rfl) ?hq120 ?hy120 hHeld ?rest120
          case hi120 => (simp only [List.getElem?_toArray, List.getElem?_cons_succ, List.getElem?_cons_zero]; rfl)
          case hy120 => (refine Or.inl ⟨by rfl, ?_⟩; intro w hSw; (try dsimp only at hSw); go_simp; try with_reducible rfl)
          case hq120 => exact fun _ _ _ h => h
          try simp only [Act.put, List.setIfInBounds_toArray, List.set_cons_zero, List.set_cons_succ]
          refine wpAnyH_take (i := 3) (oi := ?oi121) (v := ?v121) ?hi121 (by kernel_rfl) (by kernel_rfl) (by kernel_rfl) ?hq121 ?hy121 hHeld ?rest121
          case hi121 => (simp only [List.getElem?_toArray, List.getElem?_cons_succ, List.getElem?_cons_zero]; rfl)
          case hy121 => (refine Or.inl ⟨by rfl, ?_⟩; intro w hSw; (try dsimp only at hSw); go_simp; try with_reducible rfl)
          case hq121 => exact fun _ _ _ h => h
          try simp only [Act.put, List.setIfInBounds_toArray, List.set_cons_zero, List.set_cons_succ]
          refine wpAnyH_take (i := 4) (oi := ?oi122) (v := ?v122) ?hi122 (by kernel_rfl) (by kernel_rfl) (by kernel_rfl) ?hq122 ?hy122 hHeld ?rest122
          case hi122 => (simp only [List.getElem?_toArray, List.getElem?_cons_succ, List.getElem?_cons_zero]; rfl)
          case hy122 => (refine Or.inl ⟨by rfl, ?_⟩; intro w hSw; (try dsimp only at hSw); go_simp; try with_reducible rfl)
          case hq122 => exact fun _ _ _ h => h
          try simp only [Act.put, List.setIfInBounds_toArray, List.set_cons_zero, List.set_cons_succ]
          refine wpAnyH_take (i := 5) (oi := ?oi123) (v := ?v123) ?hi123 (by kernel_rfl) (by kernel_rfl) (by kernel_rfl) ?hq123 ?hy123 hHeld ?rest123
          case hi123 => (simp only [List.getElem?_toArray, List.getElem?_cons_succ, List.getElem?_cons_zero]; rfl)
          case hy123 => (refine Or.inl ⟨by rfl, ?_⟩; intro w hSw; (try dsimp only at hSw); go_simp; try with_reducible rfl)
          case hq123 => exact fun _ _ _ h => h
          try simp only [Act.put, List.setIfInBounds_toArray, List.set_cons_zero, List.set_cons_succ]
          refine wpAnyH_ready (rs := [6]) (by kernel_rfl) (by simp) ?_
          refine AllReadyH.cons (o := ?oi124) ?hi124 (fun K hK => ?_) AllReadyH.nil
          case hi124 => (simp only [List.getElem?_toArray, List.getElem?_cons_succ, List.getElem?_cons_zero]; rfl)
          go_simp
          go_at_call 13
          refine (calls_ipost (GO.under _ _ _ _ _ wr.drew FG.out HXI.out HG.out) HU.out).mono ?_
          rintro e w15 ⟨⟨Au, cu, rfl, hru, hnilu, hcu⟩, hb⟩
          have HYq := Lib.hid (HY.out.trans (hb.mono HY.out.size))
          clear HY
          have HY := HYq
          clear HYq
          have HBq := Lib.hid (HB.out.trans (hb.mono HB.out.size))
          clear HB
          have HB := HBq
          clear HBq
          have HR1q := Lib.hid (HR1.out.trans (hb.mono HR1.out.size))
          clear HR1
          have HR1 := HR1q
          clear HR1q
          have HGq := Lib.hid (HG.out.next hb)
          clear HG
          have HG := HGq
          clear HGq
          have FGq := Lib.hid (FG.out.next hb)
          clear FG
          have FG := FGq
          clear FGq
          have FFq := Lib.hid (FF.out.next hb)
          clear FF
          have FF := FFq
          clear FFq
          have FMq := Lib.hid (FM.out.next hb)
          clear FM
          have FM := FMq
          clear FMq
          have BXq := Lib.hid (BX.out.next hb)
          clear BX
          have BX := BXq
          clear BXq
          have BTq := Lib.hid (BT.out.next hb)
          clear BT
          have BT := BTq
          clear BTq
          have FLq := Lib.hid (FL.out.next hb)
          clear FL
          have FL := FLq
          clear FLq
          have FXq := Lib.hid (FX.out.next hb)
          clear FX
          have FX := FXq
          clear FXq
          have FYq := Lib.hid (FY.out.next hb)
          clear FY
          have FY := FYq
          clear FYq
          have FNq := Lib.hid (FN.out.next hb)
          clear FN
          have FN := FNq
          clear FNq
          have CLq := Lib.hid (CL.out.next hb)
          clear CL
          have CL := CLq
          clear CLq
          clear hb
          have FU := Lib.hid (LAsk.mk hru hnilu hcu (by have := HUN.out; omega) HUI.out)
          try go_wp2_with fail
          clear hHeld
          refine hK.out _ _ (HKEEP.out _ HY.out) (fun hHeld => ?_)
          clear hK K
          try simp only [Act.put, List.setIfInBounds_toArray, List.set_cons_zero, List.set_cons_succ]
          refine wpAnyH_ready (rs := [7]) (by kernel_rfl) (by simp) ?_
          refine AllReadyH.cons (o := ?oi125) ?hi125 (fun K hK => ?_) AllReadyH.nil
          case hi125 => (simp only [List.getElem?_toArray, List.getElem?_cons_succ, List.getElem?_cons_zero]; rfl)
          go_simp
          go_at_call 20
          refine (s_apart (w := w15) FL.out.reads FU.out.reads (ml300 FL.out.few) (ml300 FU.out.few) HAU.out).mono ?_
          rintro e w16 ⟨rfl, hb⟩
          have HYq := Lib.hid (HY.out.trans (hb.mono HY.out.size))
          clear HY
          have HY := HYq
          clear HYq
          have HBq := Lib.hid (HB.out.trans (hb.mono HB.out.size))
          clear HB
          have HB := HBq
          clear HBq
          have HR1q := Lib.hid (HR1.out.trans (hb.mono HR1.out.size))
          clear HR1
          have HR1 := HR1q
          clear HR1q
          have HGq := Lib.hid (HG.out.next hb)
          clear HG
          have HG := HGq
          clear HGq
          have FGq := Lib.hid (FG.out.next hb)
          clear FG
          have FG := FGq
          clear FGq
          have FFq := Lib.hid (FF.out.next hb)
          clear FF
          have FF := FFq
          clear FFq
          have FMq := Lib.hid (FM.out.next hb)
          clear FM
          have FM := FMq
          clear FMq
          have BXq := Lib.hid (BX.out.next hb)
          clear BX
          have BX := BXq
          clear BXq
          have BTq := Lib.hid (BT.out.next hb)
          clear BT
          have BT := BTq
          clear BTq
          have FLq := Lib.hid (FL.out.next hb)
          clear FL
          have FL := FLq
          clear FLq
          have FXq := Lib.hid (FX.out.next hb)
          clear FX
          have FX := FXq
          clear FXq
          have FYq := Lib.hid (FY.out.next hb)
          clear FY
          have FY := FYq
          clear FYq
          have FNq := Lib.hid (FN.out.next hb)
          clear FN
          have FN := FNq
          clear FNq
          have CLq := Lib.hid (CL.out.next hb)
          clear CL
          have CL := CLq
          clear CLq
          have FUq := Lib.hid (FU.out.next hb)
          clear FU
          have FU := FUq
          clear FUq
          clear hb
          try go_wp2_with fail
          clear hHeld
          refine hK.out _ _ (HKEEP.out _ HY.out) (fun hHeld => ?_)
          clear hK K
          try simp only [Act.put, List.setIfInBounds_toArray, List.set_cons_zero, List.set_cons_succ]
          refine wpAnyH_take (i := 8) (oi := ?oi126) (v := ?v126) ?hi126 (by kernel_rfl) (by kernel_rfl) (by kernel_rfl) ?hq126 ?hy126 hHeld ?rest126
          case hi126 => (simp only [List.getElem?_toArray, List.getElem?_cons_succ, List.getElem?_cons_zero]; rfl)
          case hy126 => (refine Or.inl ⟨by rfl, ?_⟩; intro w hSw; (try dsimp only at hSw); go_simp; try with_reducible rfl)
          case hq126 => exact fun _ _ _ h => h
          try simp only [Act.put, List.setIfInBounds_toArray, List.set_cons_zero, List.set_cons_succ]
          refine wpAnyH_take (i := 9) (oi := ?oi127) (v := undef) ?hi127 (by kernel_rfl) (by kernel_rfl) (by kernel_rfl) ?hq127 ?hy127 hHeld ?rest127
          case hi127 => (simp only [List.getElem?_toArray, List.getElem?_cons_succ, List.getElem?_cons_zero]; rfl)
          case hy127 => exact Or.inr ⟨by rfl, rfl⟩
          case hq127 => exact fun _ _ _ h => h
          try simp only [Act.put, List.setIfInBounds_toArray, List.set_cons_zero, List.set_cons_succ]
          refine wpAnyH_take (i := 10) (oi := ?oi128) (v := undef) ?hi128 (by kernel_rfl) (by kernel_rfl) (by kernel_rfl) ?hq128 ?hy128 hHeld ?rest128
          case hi128 => (simp only [List.getElem?_toArray, List.getElem?_cons_succ, List.getElem?_cons_zero]; rfl)
          case hy128 => exact Or.inr ⟨by rfl, rfl⟩
          case hq128 => exact fun _ _ _ h => h
          try simp only [Act.put, List.setIfInBounds_toArray, List.set_cons_zero, List.set_cons_succ]
          refine wpAnyH_take (i := 11) (oi := ?oi129) (v := undef) ?hi129 (by kernel_rfl) (by kernel_rfl) (by kernel_rfl) ?hq129 ?hy129 hHeld ?rest129
          case hi129 => (simp only [List.getElem?_toArray, List.getElem?_cons_succ, List.getElem?_cons_zero]; rfl)
          case hy129 => exact Or.inr ⟨by rfl, rfl⟩
          case hq129 => exact fun _ _ _ h => h
          try simp only [Act.put, List.setIfInBounds_toArray, List.set_cons_zero, List.set_cons_succ]
          refine wpAnyH_take (i := 12) (oi := ?oi130) (v := undef) ?hi130 (by kernel_rfl) (by kernel_rfl) (by kernel_rfl) ?hq130 ?hy130 hHeld ?rest130
          case hi130 => (simp only [List.getElem?_toArray, List.getElem?_cons_succ, List.getElem?_cons_zero]; rfl)
          case hy130 => exact Or.inr ⟨by rfl, rfl⟩
          case hq130 => exact fun _ _ _ h => h
          try simp only [Act.put, List.setIfInBounds_toArray, List.set_cons_zero, List.set_cons_succ]
          refine wpAnyH_take (i := 13) (oi := ?oi131) (v := undef) ?hi131 (by kernel_rfl) (by kernel_rfl) (by kernel_rfl) ?hq131 ?hy131 hHeld ?rest131
          case hi131 => (simp only [List.getElem?_toArray, List.getElem?_cons_succ, List.getElem?_cons_zero]; rfl)
          case hy131 => exact Or.inr ⟨by rfl, rfl⟩
          case hq131 => exact fun _ _ _ h => h
          try simp only [Act.put, List.setIfInBounds_toArray, List.set_cons_zero, List.set_cons_succ]
          refine wpAnyH_take (i := 14) (oi := ?oi132) (v := undef) ?hi132 (by kernel_rfl) (by kernel_rfl) (by kernel_rfl) ?hq132 ?hy132 hHeld ?rest132
          case hi132 => (simp only [List.getElem?_toArray, List.getElem?_cons_succ, List.getElem?_cons_zero]; rfl)
          case hy132 => exact Or.inr ⟨by rfl, rfl⟩
          case hq132 => exact fun _ _ _ h => h
          try simp only [Act.put, List.setIfInBounds_toArray, List.set_cons_zero, List.set_cons_succ]
          refine wpAnyH_take (i := 15) (oi := ?oi133) (v := undef) ?hi133 (by kernel_rfl) (by kernel_rfl) (by kernel_rfl) ?hq133 ?hy133 hHeld ?rest133
          case hi133 => (simp only [List.getElem?_toArray, List.getElem?_cons_succ, List.getElem?_cons_zero]; rfl)
          case hy133 => exact Or.inr ⟨by rfl, rfl⟩
          case hq133 => exact fun _ _ _ h => h
          try simp only [Act.put, List.setIfInBounds_toArray, List.set_cons_zero, List.set_cons_succ]
          refine wpAnyH_take (i := 16) (oi := ?oi134) (v := undef) ?hi134 (by kernel_rfl) (by kernel_rfl) (by kernel_rfl) ?hq134 ?hy134 hHeld ?rest134
          case hi134 => (simp only [List.getElem?_toArray, List.getElem?_cons_succ, List.getElem?_cons_zero]; rfl)
          case hy134 => exact Or.inr ⟨by rfl, rfl⟩
          case hq134 => exact fun _ _ _ h => h
          try simp only [Act.put, List.setIfInBounds_toArray, List.set_cons_zero, List.set_cons_succ]
          refine wpAnyH_take (i := 17) (oi := ?oi135) (v := undef) ?hi135 (by kernel_rfl) (by kernel_rfl) (by kernel_rfl) ?hq135 ?hy135 hHeld ?rest135
          case hi135 => (simp only [List.getElem?_toArray, List.getElem?_cons_succ, List.getElem?_cons_zero]; rfl)
          case hy135 => exact Or.inr ⟨by rfl, rfl⟩
          case hq135 => exact fun _ _ _ h => h
          try simp only [Act.put, List.setIfInBounds_toArray, List.set_cons_zero, List.set_cons_succ]
          refine wpAnyH_take (i := 18) (oi := ?oi136) (v := undef) ?hi136 (by kernel_rfl) (by kernel_rfl) (by kernel_rfl) ?hq136 ?hy136 hHeld ?rest136
          case hi136 => (simp only [List.getElem?_toArray, List.getElem?_cons_succ, List.getElem?_cons_zero]; rfl)
          case hy136 => exact Or.inr ⟨by rfl, rfl⟩
          case hq136 => exact fun _ _ _ h => h
          try simp only [Act.put, List.setIfInBounds_toArray, List.set_cons_zero, List.set_cons_succ]
          refine wpAnyH_take (i := 19) (oi := ?oi137) (v := undef) ?hi137 (by kernel_rfl) (by kernel_rfl) (by kernel_rfl) ?hq137 ?hy137 hHeld ?rest137
          case hi137 => (simp only [List.getElem?_toArray, List.getElem?_cons_succ, List.getElem?_cons_zero]; rfl)
          case hy137 => exact Or.inr ⟨by rfl, rfl⟩
          case hq137 => exact fun _ _ _ h => h
          try simp only [Act.put, List.setIfInBounds_toArray, List.set_cons_zero, List.set_cons_succ]
          refine wpAnyH_take (i := 20) (oi := ?oi138) (v := undef) ?hi138 (by kernel_rfl) (by kernel_rfl) (by kernel_rfl) ?hq138 ?hy138 hHeld ?rest138
          case hi138 => (simp only [List.getElem?_toArray, List.getElem?_cons_succ, List.getElem?_cons_zero]; rfl)
          case hy138 => exact Or.inr ⟨by rfl, rfl⟩
          case hq138 => exact fun _ _ _ h => h
          try simp only [Act.put, List.setIfInBounds_toArray, List.set_cons_zero, List.set_cons_succ]
          refine wpAnyH_take (i := 21) (oi := ?oi139) (v := undef) ?hi139 (by kernel_rfl) (by kernel_rfl) (by kernel_rfl) ?hq139 ?hy139 hHeld ?rest139
          case hi139 => (simp only [List.getElem?_toArray, List.getElem?_cons_succ, List.getElem?_cons_zero]; rfl)
          case hy139 => exact Or.inr ⟨by rfl, rfl⟩
          case hq139 => exact fun _ _ _ h => h
          try simp only [Act.put, List.setIfInBounds_toArray, List.set_cons_zero, List.set_cons_succ]
          refine wpAnyH_take (i := 22) (oi := ?oi140) (v := undef) ?hi140 (by kernel_rfl) (by kernel_rfl) (by kernel_rfl) ?hq140 ?hy140 hHeld ?rest140
          case hi140 => (simp only [List.getElem?_toArray, List.getElem?_cons_succ, List.getElem?_cons_zero]; rfl)
          case hy140 => exact Or.inr ⟨by rfl, rfl⟩
          case hq140 => exact fun _ _ _ h => h
          try simp only [Act.put, List.setIfInBounds_toArray, List.set_cons_zero, List.set_cons_succ]
          refine wpAnyH_take (i := 23) (oi := ?oi141) (v := undef) ?hi141 (by kernel_rfl) (by kernel_rfl) (by kernel_rfl) ?hq141 ?hy141 hHeld ?rest141
          case hi141 => (simp only [List.getElem?_toArray, List.getElem?_cons_succ, List.getElem?_cons_zero]; rfl)
          case hy141 => exact Or.inr ⟨by rfl, rfl⟩
          case hq141 => exact fun _ _ _ h => h
          try simp only [Act.put, List.setIfInBounds_toArray, List.set_cons_zero, List.set_cons_succ]
          refine wpAnyH_take (i := 24) (oi := ?oi142) (v := undef) ?hi142 (by kernel_rfl) (by kernel_rfl) (by kernel_rfl) ?hq142 ?hy142 hHeld ?rest142
          case hi142 => (simp only [List.getElem?_toArray, List.getElem?_cons_succ, List.getElem?_cons_zero]; rfl)
          case hy142 => exact Or.inr ⟨by rfl, rfl⟩
          case hq142 => exact fun _ _ _ h => h
          try simp only [Act.put, List.setIfInBounds_toArray, List.set_cons_zero, List.set_cons_succ]
          refine wpAnyH_take (i := 25) (oi := ?oi143) (v := undef) ?hi143 (by kernel_rfl) (by kernel_rfl) (by kernel_rfl) ?hq143 ?hy143 hHeld ?rest143
          case hi143 => (simp only [List.getElem?_toArray, List.getElem?_cons_succ, List.getElem?_cons_zero]; rfl)
          case hy143 => exact Or.inr ⟨by rfl, rfl⟩
          case hq143 => exact fun _ _ _ h => h
          try simp only [Act.put, List.setIfInBounds_toArray, List.set_cons_zero, List.set_cons_succ]
          refine wpAnyH_take (i := 26) (oi := ?oi144) (v := ?v144) ?hi144 (by kernel_rfl) (by kernel_rfl) (by kernel_rfl) ?hq144 ?hy144 hHeld ?rest144
          case hi144 => (simp only [List.getElem?_toArray, List.getElem?_cons_succ, List.getElem?_cons_zero]; rfl)
          case hy144 => (refine Or.inl ⟨by rfl, ?_⟩; intro w hSw; (try dsimp only at hSw); go_simp; try with_reducible rfl)
          case hq144 => exact fun _ _ _ h => h
          try simp only [Act.put, List.setIfInBounds_toArray, List.set_cons_zero, List.set_cons_succ]
          refine wpAnyH_done (by kernel_rfl) ?_ _
          clear HKEEP HY hHeld
          go_wp2
          go_roundw
          case rel => exact ⟨k + 1, by omega, by go_num, HR1.out⟩
          case measure => simp [intOf]; omega
        | true =>
          have HAU := Lib.hid hau
          have hsu2 := hsu hau
          obtain ⟨v, s2⟩ : ∃ v, suitsL g F t (x : Int) = v := ⟨_, rfl⟩
          rw [s2] at hsu2
          have S1 := Lib.hid hsu2
          have S2 := Lib.hid s2
          clear hsu hau hsu2 s2
          cases v
          · go_wp2
            have HKEEP : Hid (∀ wx, Below wr.drew.heap.size wr.drew wx → wx.cell? ⟨w.heap.size + 1, 0, none⟩ = some (.int .i64 t.nodes) ∧ wx.cell? ⟨w.heap.size + 1, 1, none⟩ = some (.int .i64 t.cores) ∧ wx.cell? ⟨w.heap.size + 1, 2, none⟩ = some (.int .i64 t.gpus) ∧ wx.cell? ⟨w.heap.size + 1, 3, none⟩ = some (.string t.tag) ∧ wx.cell? ⟨w.heap.size + 1, 4, none⟩ = some (.bool t.whole) ∧ wx.cell? ⟨w.heap.size + 1, 5, none⟩ = some (.int .i64 t.long) ∧ wx.cell? ⟨w.heap.size + 1, 6, none⟩ = some (.int .i64 t.prio) ∧ wx.cell? ⟨bl, ol + k, none⟩ = some (.int .i64 (x : Int))) := Lib.hid (fun wx hz' => by
              have hz := (bel_drew1 wr).trans (hz'.mono (bel_drew1 wr).size)
              exact ⟨keep_cell BT.out.lt BT.out.c0 hz, keep_cell BT.out.lt BT.out.c1 hz, keep_cell BT.out.lt BT.out.c2 hz, keep_cell BT.out.lt BT.out.c3 hz, keep_cell BT.out.lt BT.out.c4 hz, keep_cell BT.out.lt BT.out.c5 hz, keep_cell BT.out.lt BT.out.c6 hz, keep_cell CL.out.lt CL.out.at' hz⟩)
            have hd := bel_drew1 wr
            have HBq := Lib.hid (HB.out.trans (hd.mono HB.out.size))
            clear HB
            have HB := HBq
            clear HBq
            have HR1q := Lib.hid (HR1.out.trans (hd.mono HR1.out.size))
            clear HR1
            have HR1 := HR1q
            clear HR1q
            have HGq := Lib.hid (HG.out.next hd)
            clear HG
            have HG := HGq
            clear HGq
            have FGq := Lib.hid (FG.out.next hd)
            clear FG
            have FG := FGq
            clear FGq
            have FFq := Lib.hid (FF.out.next hd)
            clear FF
            have FF := FFq
            clear FFq
            have FMq := Lib.hid (FM.out.next hd)
            clear FM
            have FM := FMq
            clear FMq
            have BXq := Lib.hid (BX.out.next hd)
            clear BX
            have BX := BXq
            clear BXq
            have BTq := Lib.hid (BT.out.next hd)
            clear BT
            have BT := BTq
            clear BTq
            have FLq := Lib.hid (FL.out.next hd)
            clear FL
            have FL := FLq
            clear FLq
            have FXq := Lib.hid (FX.out.next hd)
            clear FX
            have FX := FXq
            clear FXq
            have FYq := Lib.hid (FY.out.next hd)
            clear FY
            have FY := FYq
            clear FYq
            have FNq := Lib.hid (FN.out.next hd)
            clear FN
            have FN := FNq
            clear FNq
            have CLq := Lib.hid (CL.out.next hd)
            clear CL
            have CL := CLq
            clear CLq
            clear hd
            have HY := Lib.hid (Below.refl wr.drew.heap.size wr.drew)
            refine wp_region_held_drew (S := fun w' => w'.cell? ⟨w.heap.size + 1, 0, none⟩ = some (.int .i64 t.nodes) ∧ w'.cell? ⟨w.heap.size + 1, 1, none⟩ = some (.int .i64 t.cores) ∧ w'.cell? ⟨w.heap.size + 1, 2, none⟩ = some (.int .i64 t.gpus) ∧ w'.cell? ⟨w.heap.size + 1, 3, none⟩ = some (.string t.tag) ∧ w'.cell? ⟨w.heap.size + 1, 4, none⟩ = some (.bool t.whole) ∧ w'.cell? ⟨w.heap.size + 1, 5, none⟩ = some (.int .i64 t.long) ∧ w'.cell? ⟨w.heap.size + 1, 6, none⟩ = some (.int .i64 t.prio) ∧ w'.cell? ⟨bl, ol + k, none⟩ = some (.int .i64 (x : Int))) (by kernel_rfl) (HKEEP.out _ (Below.refl _ _)) (fun hHeld => ?_)
            refine wpAnyH_take (i := 0) (oi := ?oi145) (v := ?v145) ?hi145 (by kernel_rfl) (by kernel_rfl) (by kernel_rfl) ?hq145 ?hy145 hHeld ?rest145
            case hi145 => (simp only [List.getElem?_toArray, List.getElem?_cons_zero]; rfl)
            case hy145 => (refine Or.inl ⟨by rfl, ?_⟩; intro w hSw; (try dsimp only at hSw); go_simp; try with_reducible rfl)
            case hq145 => exact fun _ _ _ h => h
            try simp only [Act.put, List.setIfInBounds_toArray, List.set_cons_zero, List.set_cons_succ]
            refine wpAnyH_take (i := 1) (oi := ?oi146) (v := ?v146) ?hi146 (by kernel_rfl) (by kernel_rfl) (by kernel_rfl) ?hq146 ?hy146 hHeld ?rest146
            case hi146 => (simp only [List.getElem?_toArray, List.getElem?_cons_succ, List.getElem?_cons_zero]; rfl)
            case hy146 => (refine Or.inl ⟨by rfl, ?_⟩; intro w hSw; (try dsimp only at hSw); go_simp; try with_reducible rfl)
            case hq146 => exact fun _ _ _ h => h
            try simp only [Act.put, List.setIfInBounds_toArray, List.set_cons_zero, List.set_cons_succ]
            refine wpAnyH_take (i := 2) (oi := ?oi147) (v := ?v147) ?hi147 (by kernel_rfl) (by kernel_rfl) (by kernel_rfl) ?hq147 ?hy147 hHeld ?rest147
            case hi147 => (simp only [List.getElem?_toArray, List.getElem?_cons_succ, List.getElem?_cons_zero]; rfl)
            case hy147 => (refine Or.inl ⟨by rfl, ?_⟩; intro w hSw; (try dsimp only at hSw); go_simp; try with_reducible rfl)
            case hq147 => exact fun _ _ _ h => h
            try simp only [Act.put, List.setIfInBounds_toArray, List.set_cons_zero, List.set_cons_succ]
            refine wpAnyH_take (i := 3) (oi := ?oi148) (v := ?v148) ?hi148 (by kernel_rfl) (by kernel_rfl) (by kernel_rfl) ?hq148 ?hy148 hHeld ?rest148
            case hi148 => (simp only [List.getElem?_toArray, List.getElem?_cons_succ, List.getElem?_cons_zero]; rfl)
            case hy148 => (refine Or.inl ⟨by rfl, ?_⟩; intro w hSw; (try dsimp only at hSw); go_simp; try with_reducible rfl)
            case hq148 => exact fun _ _ _ h => h
            try simp only [Act.put, List.setIfInBounds_toArray, List.set_cons_zero, List.set_cons_succ]
            refine wpAnyH_take (i := 4) (oi := ?oi149) (v := ?v149) ?hi149 (by kernel_rfl) (by kernel_rfl) (by kernel_rfl) ?hq149 ?hy149 hHeld ?rest149
            case hi149 => (simp only [List.getElem?_toArray, List.getElem?_cons_succ, List.getElem?_cons_zero]; rfl)
            case hy149 => (refine Or.inl ⟨by rfl, ?_⟩; intro w hSw; (try dsimp only at hSw); go_simp; try with_reducible rfl)
            case hq149 => exact fun _ _ _ h => h
            try simp only [Act.put, List.setIfInBounds_toArray, List.set_cons_zero, List.set_cons_succ]
            refine wpAnyH_take (i := 5) (oi := ?oi150) (v := ?v150) ?hi150 (by kernel_rfl) (by kernel_rfl) (by kernel_rfl) ?hq150 ?hy150 hHeld ?rest150
            case hi150 => (simp only [List.getElem?_toArray, List.getElem?_cons_succ, List.getElem?_cons_zero]; rfl)
            case hy150 => (refine Or.inl ⟨by rfl, ?_⟩; intro w hSw; (try dsimp only at hSw); go_simp; try with_reducible rfl)
            case hq150 => exact fun _ _ _ h => h
            try simp only [Act.put, List.setIfInBounds_toArray, List.set_cons_zero, List.set_cons_succ]
            refine wpAnyH_ready (rs := [6]) (by kernel_rfl) (by simp) ?_
            refine AllReadyH.cons (o := ?oi151) ?hi151 (fun K hK => ?_) AllReadyH.nil
            case hi151 => (simp only [List.getElem?_toArray, List.getElem?_cons_succ, List.getElem?_cons_zero]; rfl)
            go_simp
            go_at_call 13
            refine (calls_ipost (GO.under _ _ _ _ _ wr.drew FG.out HXI.out HG.out) HU.out).mono ?_
            rintro e w15 ⟨⟨Au, cu, rfl, hru, hnilu, hcu⟩, hb⟩
            have HYq := Lib.hid (HY.out.trans (hb.mono HY.out.size))
            clear HY
            have HY := HYq
            clear HYq
            have HBq := Lib.hid (HB.out.trans (hb.mono HB.out.size))
            clear HB
            have HB := HBq
            clear HBq
            have HR1q := Lib.hid (HR1.out.trans (hb.mono HR1.out.size))
            clear HR1
            have HR1 := HR1q
            clear HR1q
            have HGq := Lib.hid (HG.out.next hb)
            clear HG
            have HG := HGq
            clear HGq
            have FGq := Lib.hid (FG.out.next hb)
            clear FG
            have FG := FGq
            clear FGq
            have FFq := Lib.hid (FF.out.next hb)
            clear FF
            have FF := FFq
            clear FFq
            have FMq := Lib.hid (FM.out.next hb)
            clear FM
            have FM := FMq
            clear FMq
            have BXq := Lib.hid (BX.out.next hb)
            clear BX
            have BX := BXq
            clear BXq
            have BTq := Lib.hid (BT.out.next hb)
            clear BT
            have BT := BTq
            clear BTq
            have FLq := Lib.hid (FL.out.next hb)
            clear FL
            have FL := FLq
            clear FLq
            have FXq := Lib.hid (FX.out.next hb)
            clear FX
            have FX := FXq
            clear FXq
            have FYq := Lib.hid (FY.out.next hb)
            clear FY
            have FY := FYq
            clear FYq
            have FNq := Lib.hid (FN.out.next hb)
            clear FN
            have FN := FNq
            clear FNq
            have CLq := Lib.hid (CL.out.next hb)
            clear CL
            have CL := CLq
            clear CLq
            clear hb
            have FU := Lib.hid (LAsk.mk hru hnilu hcu (by have := HUN.out; omega) HUI.out)
            try go_wp2_with fail
            clear hHeld
            refine hK.out _ _ (HKEEP.out _ HY.out) (fun hHeld => ?_)
            clear hK K
            try simp only [Act.put, List.setIfInBounds_toArray, List.set_cons_zero, List.set_cons_succ]
            refine wpAnyH_ready (rs := [7]) (by kernel_rfl) (by simp) ?_
            refine AllReadyH.cons (o := ?oi152) ?hi152 (fun K hK => ?_) AllReadyH.nil
            case hi152 => (simp only [List.getElem?_toArray, List.getElem?_cons_succ, List.getElem?_cons_zero]; rfl)
            go_simp
            go_at_call 20
            refine (s_apart (w := w15) FL.out.reads FU.out.reads (ml300 FL.out.few) (ml300 FU.out.few) HAU.out).mono ?_
            rintro e w16 ⟨rfl, hb⟩
            have HYq := Lib.hid (HY.out.trans (hb.mono HY.out.size))
            clear HY
            have HY := HYq
            clear HYq
            have HBq := Lib.hid (HB.out.trans (hb.mono HB.out.size))
            clear HB
            have HB := HBq
            clear HBq
            have HR1q := Lib.hid (HR1.out.trans (hb.mono HR1.out.size))
            clear HR1
            have HR1 := HR1q
            clear HR1q
            have HGq := Lib.hid (HG.out.next hb)
            clear HG
            have HG := HGq
            clear HGq
            have FGq := Lib.hid (FG.out.next hb)
            clear FG
            have FG := FGq
            clear FGq
            have FFq := Lib.hid (FF.out.next hb)
            clear FF
            have FF := FFq
            clear FFq
            have FMq := Lib.hid (FM.out.next hb)
            clear FM
            have FM := FMq
            clear FMq
            have BXq := Lib.hid (BX.out.next hb)
            clear BX
            have BX := BXq
            clear BXq
            have BTq := Lib.hid (BT.out.next hb)
            clear BT
            have BT := BTq
            clear BTq
            have FLq := Lib.hid (FL.out.next hb)
            clear FL
            have FL := FLq
            clear FLq
            have FXq := Lib.hid (FX.out.next hb)
            clear FX
            have FX := FXq
            clear FXq
            have FYq := Lib.hid (FY.out.next hb)
            clear FY
            have FY := FYq
            clear FYq
            have FNq := Lib.hid (FN.out.next hb)
            clear FN
            have FN := FNq
            clear FNq
            have CLq := Lib.hid (CL.out.next hb)
            clear CL
            have CL := CLq
            clear CLq
            have FUq := Lib.hid (FU.out.next hb)
            clear FU
            have FU := FUq
            clear FUq
            clear hb
            try go_wp2_with fail
            clear hHeld
            refine hK.out _ _ (HKEEP.out _ HY.out) (fun hHeld => ?_)
            clear hK K
            try simp only [Act.put, List.setIfInBounds_toArray, List.set_cons_zero, List.set_cons_succ]
            refine wpAnyH_take (i := 8) (oi := ?oi153) (v := ?v153) ?hi153 (by kernel_rfl) (by kernel_rfl) (by kernel_rfl) ?hq153 ?hy153 hHeld ?rest153
            case hi153 => (simp only [List.getElem?_toArray, List.getElem?_cons_succ, List.getElem?_cons_zero]; rfl)
            case hy153 => (refine Or.inl ⟨by rfl, ?_⟩; intro w hSw; (try dsimp only at hSw); go_simp; try with_reducible rfl)
            case hq153 => exact fun _ _ _ h => h
            try simp only [Act.put, List.setIfInBounds_toArray, List.set_cons_zero, List.set_cons_succ]
            refine wpAnyH_take (i := 9) (oi := ?oi154) (v := ?v154) ?hi154 (by kernel_rfl) (by kernel_rfl) (by kernel_rfl) ?hq154 ?hy154 hHeld ?rest154
            case hi154 => (simp only [List.getElem?_toArray, List.getElem?_cons_succ, List.getElem?_cons_zero]; rfl)
            case hy154 => (refine Or.inl ⟨by rfl, ?_⟩; intro w hSw; (try dsimp only at hSw); go_simp; try with_reducible rfl)
            case hq154 => exact fun _ _ _ h => h
            try simp only [Act.put, List.setIfInBounds_toArray, List.set_cons_zero, List.set_cons_succ]
            refine wpAnyH_take (i := 10) (oi := ?oi155) (v := ?v155) ?hi155 (by kernel_rfl) (by kernel_rfl) (by kernel_rfl) ?hq155 ?hy155 hHeld ?rest155
            case hi155 => (simp only [List.getElem?_toArray, List.getElem?_cons_succ, List.getElem?_cons_zero]; rfl)
            case hy155 => (refine Or.inl ⟨by rfl, ?_⟩; intro w hSw; (try dsimp only at hSw); go_simp; try with_reducible rfl)
            case hq155 => exact fun _ _ _ h => h
            try simp only [Act.put, List.setIfInBounds_toArray, List.set_cons_zero, List.set_cons_succ]
            refine wpAnyH_take (i := 11) (oi := ?oi156) (v := ?v156) ?hi156 (by kernel_rfl) (by kernel_rfl) (by kernel_rfl) ?hq156 ?hy156 hHeld ?rest156
            case hi156 => (simp only [List.getElem?_toArray, List.getElem?_cons_succ, List.getElem?_cons_zero]; rfl)
            case hy156 => (refine Or.inl ⟨by rfl, ?_⟩; intro w hSw; (try dsimp only at hSw); go_simp; try with_reducible rfl)
            case hq156 => exact fun _ _ _ h => h
            try simp only [Act.put, List.setIfInBounds_toArray, List.set_cons_zero, List.set_cons_succ]
            refine wpAnyH_take (i := 12) (oi := ?oi157) (v := ?v157) ?hi157 (by kernel_rfl) (by kernel_rfl) (by kernel_rfl) ?hq157 ?hy157 hHeld ?rest157
            case hi157 => (simp only [List.getElem?_toArray, List.getElem?_cons_succ, List.getElem?_cons_zero]; rfl)
            case hy157 => (refine Or.inl ⟨by rfl, ?_⟩; intro w hSw; (try dsimp only at hSw); go_simp; try with_reducible rfl)
            case hq157 => exact fun _ _ _ h => h
            try simp only [Act.put, List.setIfInBounds_toArray, List.set_cons_zero, List.set_cons_succ]
            refine wpAnyH_take (i := 13) (oi := ?oi158) (v := ?v158) ?hi158 (by kernel_rfl) (by kernel_rfl) (by kernel_rfl) ?hq158 ?hy158 hHeld ?rest158
            case hi158 => (simp only [List.getElem?_toArray, List.getElem?_cons_succ, List.getElem?_cons_zero]; rfl)
            case hy158 => (refine Or.inl ⟨by rfl, ?_⟩; intro w hSw; (try dsimp only at hSw); go_simp; try with_reducible rfl)
            case hq158 => exact fun _ _ _ h => h
            try simp only [Act.put, List.setIfInBounds_toArray, List.set_cons_zero, List.set_cons_succ]
            refine wpAnyH_take (i := 14) (oi := ?oi159) (v := ?v159) ?hi159 (by kernel_rfl) (by kernel_rfl) (by kernel_rfl) ?hq159 ?hy159 hHeld ?rest159
            case hi159 => (simp only [List.getElem?_toArray, List.getElem?_cons_succ, List.getElem?_cons_zero]; rfl)
            case hy159 => (refine Or.inl ⟨by rfl, ?_⟩; intro w hSw; (try dsimp only at hSw); go_simp; try with_reducible rfl)
            case hq159 => exact fun _ _ _ h => h
            try simp only [Act.put, List.setIfInBounds_toArray, List.set_cons_zero, List.set_cons_succ]
            refine wpAnyH_take (i := 15) (oi := ?oi160) (v := ?v160) ?hi160 (by kernel_rfl) (by kernel_rfl) (by kernel_rfl) ?hq160 ?hy160 hHeld ?rest160
            case hi160 => (simp only [List.getElem?_toArray, List.getElem?_cons_succ, List.getElem?_cons_zero]; rfl)
            case hy160 => (refine Or.inl ⟨by rfl, ?_⟩; intro w hSw; (try dsimp only at hSw); go_simp; try with_reducible rfl)
            case hq160 => exact fun _ _ _ h => h
            try simp only [Act.put, List.setIfInBounds_toArray, List.set_cons_zero, List.set_cons_succ]
            refine wpAnyH_take (i := 17) (oi := ?oi161) (v := ?v161) ?hi161 (by kernel_rfl) (by kernel_rfl) (by kernel_rfl) ?hq161 ?hy161 hHeld ?rest161
            case hi161 => (simp only [List.getElem?_toArray, List.getElem?_cons_succ, List.getElem?_cons_zero]; rfl)
            case hy161 => (refine Or.inl ⟨by rfl, ?_⟩; intro w hSw; (try dsimp only at hSw); go_simp; try with_reducible rfl)
            case hq161 => exact fun _ _ _ h => h
            try simp only [Act.put, List.setIfInBounds_toArray, List.set_cons_zero, List.set_cons_succ]
            refine wpAnyH_take (i := 18) (oi := ?oi162) (v := ?v162) ?hi162 (by kernel_rfl) (by kernel_rfl) (by kernel_rfl) ?hq162 ?hy162 hHeld ?rest162
            case hi162 => (simp only [List.getElem?_toArray, List.getElem?_cons_succ, List.getElem?_cons_zero]; rfl)
            case hy162 => (refine Or.inl ⟨by rfl, ?_⟩; intro w hSw; (try dsimp only at hSw); go_simp; try with_reducible rfl)
            case hq162 => exact fun _ _ _ h => h
            try simp only [Act.put, List.setIfInBounds_toArray, List.set_cons_zero, List.set_cons_succ]
            refine wpAnyH_take (i := 19) (oi := ?oi163) (v := ?v163) ?hi163 (by kernel_rfl) (by kernel_rfl) (by kernel_rfl) ?hq163 ?hy163 hHeld ?rest163
            case hi163 => (simp only [List.getElem?_toArray, List.getElem?_cons_succ, List.getElem?_cons_zero]; rfl)
            case hy163 => (refine Or.inl ⟨by rfl, ?_⟩; intro w hSw; (try dsimp only at hSw); go_simp; try with_reducible rfl)
            case hq163 => exact fun _ _ _ h => h
            try simp only [Act.put, List.setIfInBounds_toArray, List.set_cons_zero, List.set_cons_succ]
            refine wpAnyH_take (i := 20) (oi := ?oi164) (v := ?v164) ?hi164 (by kernel_rfl) (by kernel_rfl) (by kernel_rfl) ?hq164 ?hy164 hHeld ?rest164
            case hi164 => (simp only [List.getElem?_toArray, List.getElem?_cons_succ, List.getElem?_cons_zero]; rfl)
            case hy164 => (refine Or.inl ⟨by rfl, ?_⟩; intro w hSw; (try dsimp only at hSw); go_simp; try with_reducible rfl)
            case hq164 => exact fun _ _ _ h => h
            try simp only [Act.put, List.setIfInBounds_toArray, List.set_cons_zero, List.set_cons_succ]
            refine wpAnyH_take (i := 21) (oi := ?oi165) (v := ?v165) ?hi165 (by kernel_rfl) (by kernel_rfl) (by kernel_rfl) ?hq165 ?hy165 hHeld ?rest165
            case hi165 => (simp only [List.getElem?_toArray, List.getElem?_cons_succ, List.getElem?_cons_zero]; rfl)
            case hy165 => (refine Or.inl ⟨by rfl, ?_⟩; intro w hSw; (try dsimp only at hSw); go_simp; try with_reducible rfl)
            case hq165 => exact fun _ _ _ h => h
            try simp only [Act.put, List.setIfInBounds_toArray, List.set_cons_zero, List.set_cons_succ]
            refine wpAnyH_take (i := 22) (oi := ?oi166) (v := ?v166) ?hi166 (by kernel_rfl) (by kernel_rfl) (by kernel_rfl) ?hq166 ?hy166 hHeld ?rest166
            case hi166 => (simp only [List.getElem?_toArray, List.getElem?_cons_succ, List.getElem?_cons_zero]; rfl)
            case hy166 => (refine Or.inl ⟨by rfl, ?_⟩; intro w hSw; (try dsimp only at hSw); go_simp; try with_reducible rfl)
            case hq166 => exact fun _ _ _ h => h
            try simp only [Act.put, List.setIfInBounds_toArray, List.set_cons_zero, List.set_cons_succ]
            refine wpAnyH_take (i := 23) (oi := ?oi167) (v := ?v167) ?hi167 (by kernel_rfl) (by kernel_rfl) (by kernel_rfl) ?hq167 ?hy167 hHeld ?rest167
            case hi167 => (simp only [List.getElem?_toArray, List.getElem?_cons_succ, List.getElem?_cons_zero]; rfl)
            case hy167 => (refine Or.inl ⟨by rfl, ?_⟩; intro w hSw; (try dsimp only at hSw); go_simp; try with_reducible rfl)
            case hq167 => exact fun _ _ _ h => h
            try simp only [Act.put, List.setIfInBounds_toArray, List.set_cons_zero, List.set_cons_succ]
            refine wpAnyH_ready (rs := [16]) (by kernel_rfl) (by simp) ?_
            refine AllReadyH.cons (o := ?oi168) ?hi168 (fun K hK => ?_) AllReadyH.nil
            case hi168 => (simp only [List.getElem?_toArray, List.getElem?_cons_succ, List.getElem?_cons_zero]; rfl)
            go_simp
            go_at_call 15
            refine (m9_suits (w := w16) H FG.out FX.out HT.out HG.out HXI.out S1.out).mono ?_
            rintro e w17 ⟨rfl, hb⟩
            have HYq := Lib.hid (HY.out.trans (hb.mono HY.out.size))
            clear HY
            have HY := HYq
            clear HYq
            have HBq := Lib.hid (HB.out.trans (hb.mono HB.out.size))
            clear HB
            have HB := HBq
            clear HBq
            have HR1q := Lib.hid (HR1.out.trans (hb.mono HR1.out.size))
            clear HR1
            have HR1 := HR1q
            clear HR1q
            have HGq := Lib.hid (HG.out.next hb)
            clear HG
            have HG := HGq
            clear HGq
            have FGq := Lib.hid (FG.out.next hb)
            clear FG
            have FG := FGq
            clear FGq
            have FFq := Lib.hid (FF.out.next hb)
            clear FF
            have FF := FFq
            clear FFq
            have FMq := Lib.hid (FM.out.next hb)
            clear FM
            have FM := FMq
            clear FMq
            have BXq := Lib.hid (BX.out.next hb)
            clear BX
            have BX := BXq
            clear BXq
            have BTq := Lib.hid (BT.out.next hb)
            clear BT
            have BT := BTq
            clear BTq
            have FLq := Lib.hid (FL.out.next hb)
            clear FL
            have FL := FLq
            clear FLq
            have FXq := Lib.hid (FX.out.next hb)
            clear FX
            have FX := FXq
            clear FXq
            have FYq := Lib.hid (FY.out.next hb)
            clear FY
            have FY := FYq
            clear FYq
            have FNq := Lib.hid (FN.out.next hb)
            clear FN
            have FN := FNq
            clear FNq
            have CLq := Lib.hid (CL.out.next hb)
            clear CL
            have CL := CLq
            clear CLq
            have FUq := Lib.hid (FU.out.next hb)
            clear FU
            have FU := FUq
            clear FUq
            clear hb
            try go_wp2_with fail
            clear hHeld
            refine hK.out _ _ (HKEEP.out _ HY.out) (fun hHeld => ?_)
            clear hK K
            try simp only [Act.put, List.setIfInBounds_toArray, List.set_cons_zero, List.set_cons_succ]
            refine wpAnyH_ready (rs := [24]) (by kernel_rfl) (by simp) ?_
            refine AllReadyH.cons (o := ?oi169) ?hi169 (fun K hK => ?_) AllReadyH.nil
            case hi169 => (simp only [List.getElem?_toArray, List.getElem?_cons_succ, List.getElem?_cons_zero]; rfl)
            go_simp
            go_at_call 15
            refine (m9_suits (w := w17) H FG.out FF.out HT.out HG.out HXI.out S2.out).mono ?_
            rintro e w18 ⟨rfl, hb⟩
            have HYq := Lib.hid (HY.out.trans (hb.mono HY.out.size))
            clear HY
            have HY := HYq
            clear HYq
            have HBq := Lib.hid (HB.out.trans (hb.mono HB.out.size))
            clear HB
            have HB := HBq
            clear HBq
            have HR1q := Lib.hid (HR1.out.trans (hb.mono HR1.out.size))
            clear HR1
            have HR1 := HR1q
            clear HR1q
            have HGq := Lib.hid (HG.out.next hb)
            clear HG
            have HG := HGq
            clear HGq
            have FGq := Lib.hid (FG.out.next hb)
            clear FG
            have FG := FGq
            clear FGq
            have FFq := Lib.hid (FF.out.next hb)
            clear FF
            have FF := FFq
            clear FFq
            have FMq := Lib.hid (FM.out.next hb)
            clear FM
            have FM := FMq
            clear FMq
            have BXq := Lib.hid (BX.out.next hb)
            clear BX
            have BX := BXq
            clear BXq
            have BTq := Lib.hid (BT.out.next hb)
            clear BT
            have BT := BTq
            clear BTq
            have FLq := Lib.hid (FL.out.next hb)
            clear FL
            have FL := FLq
            clear FLq
            have FXq := Lib.hid (FX.out.next hb)
            clear FX
            have FX := FXq
            clear FXq
            have FYq := Lib.hid (FY.out.next hb)
            clear FY
            have FY := FYq
            clear FYq
            have FNq := Lib.hid (FN.out.next hb)
            clear FN
            have FN := FNq
            clear FNq
            have CLq := Lib.hid (CL.out.next hb)
            clear CL
            have CL := CLq
            clear CLq
            have FUq := Lib.hid (FU.out.next hb)
            clear FU
            have FU := FUq
            clear FUq
            clear hb
            try go_wp2_with fail
            clear hHeld
            refine hK.out _ _ (HKEEP.out _ HY.out) (fun hHeld => ?_)
            clear hK K
            try simp only [Act.put, List.setIfInBounds_toArray, List.set_cons_zero, List.set_cons_succ]
            refine wpAnyH_take (i := 25) (oi := ?oi170) (v := ?v170) ?hi170 (by kernel_rfl) (by kernel_rfl) (by kernel_rfl) ?hq170 ?hy170 hHeld ?rest170
            case hi170 => (simp only [List.getElem?_toArray, List.getElem?_cons_succ, List.getElem?_cons_zero]; rfl)
            case hy170 => (refine Or.inl ⟨by rfl, ?_⟩; intro w hSw; (try dsimp only at hSw); go_simp; try with_reducible rfl)
            case hq170 => exact fun _ _ _ h => h
            try simp only [Act.put, List.setIfInBounds_toArray, List.set_cons_zero, List.set_cons_succ]
            refine wpAnyH_take (i := 26) (oi := ?oi171) (v := ?v171) ?hi171 (by kernel_rfl) (by kernel_rfl) (by kernel_rfl) ?hq171 ?hy171 hHeld ?rest171
            case hi171 => (simp only [List.getElem?_toArray, List.getElem?_cons_succ, List.getElem?_cons_zero]; rfl)
            case hy171 => (refine Or.inl ⟨by rfl, ?_⟩; intro w hSw; (try dsimp only at hSw); go_simp; try with_reducible rfl)
            case hq171 => exact fun _ _ _ h => h
            try simp only [Act.put, List.setIfInBounds_toArray, List.set_cons_zero, List.set_cons_succ]
            refine wpAnyH_done (by kernel_rfl) ?_ _
            clear HKEEP HY hHeld
            go_wp2
            go_roundw
            case rel => exact ⟨k + 1, by omega, by go_num, HR1.out⟩
            case measure => simp [intOf]; omega
          · go_wp2
            have HKEEP : Hid (∀ wx, Below wr.drew.heap.size wr.drew wx → wx.cell? ⟨w.heap.size + 1, 0, none⟩ = some (.int .i64 t.nodes) ∧ wx.cell? ⟨w.heap.size + 1, 1, none⟩ = some (.int .i64 t.cores) ∧ wx.cell? ⟨w.heap.size + 1, 2, none⟩ = some (.int .i64 t.gpus) ∧ wx.cell? ⟨w.heap.size + 1, 3, none⟩ = some (.string t.tag) ∧ wx.cell? ⟨w.heap.size + 1, 4, none⟩ = some (.bool t.whole) ∧ wx.cell? ⟨w.heap.size + 1, 5, none⟩ = some (.int .i64 t.long) ∧ wx.cell? ⟨w.heap.size + 1, 6, none⟩ = some (.int .i64 t.prio) ∧ wx.cell? ⟨bl, ol + k, none⟩ = some (.int .i64 (x : Int))) := Lib.hid (fun wx hz' => by
              have hz := (bel_drew1 wr).trans (hz'.mono (bel_drew1 wr).size)
              exact ⟨keep_cell BT.out.lt BT.out.c0 hz, keep_cell BT.out.lt BT.out.c1 hz, keep_cell BT.out.lt BT.out.c2 hz, keep_cell BT.out.lt BT.out.c3 hz, keep_cell BT.out.lt BT.out.c4 hz, keep_cell BT.out.lt BT.out.c5 hz, keep_cell BT.out.lt BT.out.c6 hz, keep_cell CL.out.lt CL.out.at' hz⟩)
            have hd := bel_drew1 wr
            have HBq := Lib.hid (HB.out.trans (hd.mono HB.out.size))
            clear HB
            have HB := HBq
            clear HBq
            have HR1q := Lib.hid (HR1.out.trans (hd.mono HR1.out.size))
            clear HR1
            have HR1 := HR1q
            clear HR1q
            have HGq := Lib.hid (HG.out.next hd)
            clear HG
            have HG := HGq
            clear HGq
            have FGq := Lib.hid (FG.out.next hd)
            clear FG
            have FG := FGq
            clear FGq
            have FFq := Lib.hid (FF.out.next hd)
            clear FF
            have FF := FFq
            clear FFq
            have FMq := Lib.hid (FM.out.next hd)
            clear FM
            have FM := FMq
            clear FMq
            have BXq := Lib.hid (BX.out.next hd)
            clear BX
            have BX := BXq
            clear BXq
            have BTq := Lib.hid (BT.out.next hd)
            clear BT
            have BT := BTq
            clear BTq
            have FLq := Lib.hid (FL.out.next hd)
            clear FL
            have FL := FLq
            clear FLq
            have FXq := Lib.hid (FX.out.next hd)
            clear FX
            have FX := FXq
            clear FXq
            have FYq := Lib.hid (FY.out.next hd)
            clear FY
            have FY := FYq
            clear FYq
            have FNq := Lib.hid (FN.out.next hd)
            clear FN
            have FN := FNq
            clear FNq
            have CLq := Lib.hid (CL.out.next hd)
            clear CL
            have CL := CLq
            clear CLq
            clear hd
            have HY := Lib.hid (Below.refl wr.drew.heap.size wr.drew)
            refine wp_region_held_drew (S := fun w' => w'.cell? ⟨w.heap.size + 1, 0, none⟩ = some (.int .i64 t.nodes) ∧ w'.cell? ⟨w.heap.size + 1, 1, none⟩ = some (.int .i64 t.cores) ∧ w'.cell? ⟨w.heap.size + 1, 2, none⟩ = some (.int .i64 t.gpus) ∧ w'.cell? ⟨w.heap.size + 1, 3, none⟩ = some (.string t.tag) ∧ w'.cell? ⟨w.heap.size + 1, 4, none⟩ = some (.bool t.whole) ∧ w'.cell? ⟨w.heap.size + 1, 5, none⟩ = some (.int .i64 t.long) ∧ w'.cell? ⟨w.heap.size + 1, 6, none⟩ = some (.int .i64 t.prio) ∧ w'.cell? ⟨bl, ol + k, none⟩ = some (.int .i64 (x : Int))) (by kernel_rfl) (HKEEP.out _ (Below.refl _ _)) (fun hHeld => ?_)
            refine wpAnyH_take (i := 0) (oi := ?oi172) (v := ?v172) ?hi172 (by kernel_rfl) (by kernel_rfl) (by kernel_rfl) ?hq172 ?hy172 hHeld ?rest172
            case hi172 => (simp only [List.getElem?_toArray, List.getElem?_cons_zero]; rfl)
            case hy172 => (refine Or.inl ⟨by rfl, ?_⟩; intro w hSw; (try dsimp only at hSw); go_simp; try with_reducible rfl)
            case hq172 => exact fun _ _ _ h => h
            try simp only [Act.put, List.setIfInBounds_toArray, List.set_cons_zero, List.set_cons_succ]
            refine wpAnyH_take (i := 1) (oi := ?oi173) (v := ?v173) ?hi173 (by kernel_rfl) (by kernel_rfl) (by kernel_rfl) ?hq173 ?hy173 hHeld ?rest173
            case hi173 => (simp only [List.getElem?_toArray, List.getElem?_cons_succ, List.getElem?_cons_zero]; rfl)
            case hy173 => (refine Or.inl ⟨by rfl, ?_⟩; intro w hSw; (try dsimp only at hSw); go_simp; try with_reducible rfl)
            case hq173 => exact fun _ _ _ h => h
            try simp only [Act.put, List.setIfInBounds_toArray, List.set_cons_zero, List.set_cons_succ]
            refine wpAnyH_take (i := 2) (oi := ?oi174) (v := ?v174) ?hi174 (by kernel_rfl) (by kernel_rfl) (by kernel_rfl) ?hq174 ?hy174 hHeld ?rest174
            case hi174 => (simp only [List.getElem?_toArray, List.getElem?_cons_succ, List.getElem?_cons_zero]; rfl)
            case hy174 => (refine Or.inl ⟨by rfl, ?_⟩; intro w hSw; (try dsimp only at hSw); go_simp; try with_reducible rfl)
            case hq174 => exact fun _ _ _ h => h
            try simp only [Act.put, List.setIfInBounds_toArray, List.set_cons_zero, List.set_cons_succ]
            refine wpAnyH_take (i := 3) (oi := ?oi175) (v := ?v175) ?hi175 (by kernel_rfl) (by kernel_rfl) (by kernel_rfl) ?hq175 ?hy175 hHeld ?rest175
            case hi175 => (simp only [List.getElem?_toArray, List.getElem?_cons_succ, List.getElem?_cons_zero]; rfl)
            case hy175 => (refine Or.inl ⟨by rfl, ?_⟩; intro w hSw; (try dsimp only at hSw); go_simp; try with_reducible rfl)
            case hq175 => exact fun _ _ _ h => h
            try simp only [Act.put, List.setIfInBounds_toArray, List.set_cons_zero, List.set_cons_succ]
            refine wpAnyH_take (i := 4) (oi := ?oi176) (v := ?v176) ?hi176 (by kernel_rfl) (by kernel_rfl) (by kernel_rfl) ?hq176 ?hy176 hHeld ?rest176
            case hi176 => (simp only [List.getElem?_toArray, List.getElem?_cons_succ, List.getElem?_cons_zero]; rfl)
            case hy176 => (refine Or.inl ⟨by rfl, ?_⟩; intro w hSw; (try dsimp only at hSw); go_simp; try with_reducible rfl)
            case hq176 => exact fun _ _ _ h => h
            try simp only [Act.put, List.setIfInBounds_toArray, List.set_cons_zero, List.set_cons_succ]
            refine wpAnyH_take (i := 5) (oi := ?oi177) (v := ?v177) ?hi177 (by kernel_rfl) (by kernel_rfl) (by kernel_rfl) ?hq177 ?hy177 hHeld ?rest177
            case hi177 => (simp only [List.getElem?_toArray, List.getElem?_cons_succ, List.getElem?_cons_zero]; rfl)
            case hy177 => (refine Or.inl ⟨by rfl, ?_⟩; intro w hSw; (try dsimp only at hSw); go_simp; try with_reducible rfl)
            case hq177 => exact fun _ _ _ h => h
            try simp only [Act.put, List.setIfInBounds_toArray, List.set_cons_zero, List.set_cons_succ]
            refine wpAnyH_ready (rs := [6]) (by kernel_rfl) (by simp) ?_
            refine AllReadyH.cons (o := ?oi178) ?hi178 (fun K hK => ?_) AllReadyH.nil
            case hi178 => (simp only [List.getElem?_toArray, List.getElem?_cons_succ, List.getElem?_cons_zero]; rfl)
            go_simp
            go_at_call 13
            refine (calls_ipost (GO.under _ _ _ _ _ wr.drew FG.out HXI.out HG.out) HU.out).mono ?_
            rintro e w15 ⟨⟨Au, cu, rfl, hru, hnilu, hcu⟩, hb⟩
            have HYq := Lib.hid (HY.out.trans (hb.mono HY.out.size))
            clear HY
            have HY := HYq
            clear HYq
            have HBq := Lib.hid (HB.out.trans (hb.mono HB.out.size))
            clear HB
            have HB := HBq
            clear HBq
            have HR1q := Lib.hid (HR1.out.trans (hb.mono HR1.out.size))
            clear HR1
            have HR1 := HR1q
            clear HR1q
            have HGq := Lib.hid (HG.out.next hb)
            clear HG
            have HG := HGq
            clear HGq
            have FGq := Lib.hid (FG.out.next hb)
            clear FG
            have FG := FGq
            clear FGq
            have FFq := Lib.hid (FF.out.next hb)
            clear FF
            have FF := FFq
            clear FFq
            have FMq := Lib.hid (FM.out.next hb)
            clear FM
            have FM := FMq
            clear FMq
            have BXq := Lib.hid (BX.out.next hb)
            clear BX
            have BX := BXq
            clear BXq
            have BTq := Lib.hid (BT.out.next hb)
            clear BT
            have BT := BTq
            clear BTq
            have FLq := Lib.hid (FL.out.next hb)
            clear FL
            have FL := FLq
            clear FLq
            have FXq := Lib.hid (FX.out.next hb)
            clear FX
            have FX := FXq
            clear FXq
            have FYq := Lib.hid (FY.out.next hb)
            clear FY
            have FY := FYq
            clear FYq
            have FNq := Lib.hid (FN.out.next hb)
            clear FN
            have FN := FNq
            clear FNq
            have CLq := Lib.hid (CL.out.next hb)
            clear CL
            have CL := CLq
            clear CLq
            clear hb
            have FU := Lib.hid (LAsk.mk hru hnilu hcu (by have := HUN.out; omega) HUI.out)
            try go_wp2_with fail
            clear hHeld
            refine hK.out _ _ (HKEEP.out _ HY.out) (fun hHeld => ?_)
            clear hK K
            try simp only [Act.put, List.setIfInBounds_toArray, List.set_cons_zero, List.set_cons_succ]
            refine wpAnyH_ready (rs := [7]) (by kernel_rfl) (by simp) ?_
            refine AllReadyH.cons (o := ?oi179) ?hi179 (fun K hK => ?_) AllReadyH.nil
            case hi179 => (simp only [List.getElem?_toArray, List.getElem?_cons_succ, List.getElem?_cons_zero]; rfl)
            go_simp
            go_at_call 20
            refine (s_apart (w := w15) FL.out.reads FU.out.reads (ml300 FL.out.few) (ml300 FU.out.few) HAU.out).mono ?_
            rintro e w16 ⟨rfl, hb⟩
            have HYq := Lib.hid (HY.out.trans (hb.mono HY.out.size))
            clear HY
            have HY := HYq
            clear HYq
            have HBq := Lib.hid (HB.out.trans (hb.mono HB.out.size))
            clear HB
            have HB := HBq
            clear HBq
            have HR1q := Lib.hid (HR1.out.trans (hb.mono HR1.out.size))
            clear HR1
            have HR1 := HR1q
            clear HR1q
            have HGq := Lib.hid (HG.out.next hb)
            clear HG
            have HG := HGq
            clear HGq
            have FGq := Lib.hid (FG.out.next hb)
            clear FG
            have FG := FGq
            clear FGq
            have FFq := Lib.hid (FF.out.next hb)
            clear FF
            have FF := FFq
            clear FFq
            have FMq := Lib.hid (FM.out.next hb)
            clear FM
            have FM := FMq
            clear FMq
            have BXq := Lib.hid (BX.out.next hb)
            clear BX
            have BX := BXq
            clear BXq
            have BTq := Lib.hid (BT.out.next hb)
            clear BT
            have BT := BTq
            clear BTq
            have FLq := Lib.hid (FL.out.next hb)
            clear FL
            have FL := FLq
            clear FLq
            have FXq := Lib.hid (FX.out.next hb)
            clear FX
            have FX := FXq
            clear FXq
            have FYq := Lib.hid (FY.out.next hb)
            clear FY
            have FY := FYq
            clear FYq
            have FNq := Lib.hid (FN.out.next hb)
            clear FN
            have FN := FNq
            clear FNq
            have CLq := Lib.hid (CL.out.next hb)
            clear CL
            have CL := CLq
            clear CLq
            have FUq := Lib.hid (FU.out.next hb)
            clear FU
            have FU := FUq
            clear FUq
            clear hb
            try go_wp2_with fail
            clear hHeld
            refine hK.out _ _ (HKEEP.out _ HY.out) (fun hHeld => ?_)
            clear hK K
            try simp only [Act.put, List.setIfInBounds_toArray, List.set_cons_zero, List.set_cons_succ]
            refine wpAnyH_take (i := 8) (oi := ?oi180) (v := ?v180) ?hi180 (by kernel_rfl) (by kernel_rfl) (by kernel_rfl) ?hq180 ?hy180 hHeld ?rest180
            case hi180 => (simp only [List.getElem?_toArray, List.getElem?_cons_succ, List.getElem?_cons_zero]; rfl)
            case hy180 => (refine Or.inl ⟨by rfl, ?_⟩; intro w hSw; (try dsimp only at hSw); go_simp; try with_reducible rfl)
            case hq180 => exact fun _ _ _ h => h
            try simp only [Act.put, List.setIfInBounds_toArray, List.set_cons_zero, List.set_cons_succ]
            refine wpAnyH_take (i := 9) (oi := ?oi181) (v := ?v181) ?hi181 (by kernel_rfl) (by kernel_rfl) (by kernel_rfl) ?hq181 ?hy181 hHeld ?rest181
            case hi181 => (simp only [List.getElem?_toArray, List.getElem?_cons_succ, List.getElem?_cons_zero]; rfl)
            case hy181 => (refine Or.inl ⟨by rfl, ?_⟩; intro w hSw; (try dsimp only at hSw); go_simp; try with_reducible rfl)
            case hq181 => exact fun _ _ _ h => h
            try simp only [Act.put, List.setIfInBounds_toArray, List.set_cons_zero, List.set_cons_succ]
            refine wpAnyH_take (i := 10) (oi := ?oi182) (v := ?v182) ?hi182 (by kernel_rfl) (by kernel_rfl) (by kernel_rfl) ?hq182 ?hy182 hHeld ?rest182
            case hi182 => (simp only [List.getElem?_toArray, List.getElem?_cons_succ, List.getElem?_cons_zero]; rfl)
            case hy182 => (refine Or.inl ⟨by rfl, ?_⟩; intro w hSw; (try dsimp only at hSw); go_simp; try with_reducible rfl)
            case hq182 => exact fun _ _ _ h => h
            try simp only [Act.put, List.setIfInBounds_toArray, List.set_cons_zero, List.set_cons_succ]
            refine wpAnyH_take (i := 11) (oi := ?oi183) (v := ?v183) ?hi183 (by kernel_rfl) (by kernel_rfl) (by kernel_rfl) ?hq183 ?hy183 hHeld ?rest183
            case hi183 => (simp only [List.getElem?_toArray, List.getElem?_cons_succ, List.getElem?_cons_zero]; rfl)
            case hy183 => (refine Or.inl ⟨by rfl, ?_⟩; intro w hSw; (try dsimp only at hSw); go_simp; try with_reducible rfl)
            case hq183 => exact fun _ _ _ h => h
            try simp only [Act.put, List.setIfInBounds_toArray, List.set_cons_zero, List.set_cons_succ]
            refine wpAnyH_take (i := 12) (oi := ?oi184) (v := ?v184) ?hi184 (by kernel_rfl) (by kernel_rfl) (by kernel_rfl) ?hq184 ?hy184 hHeld ?rest184
            case hi184 => (simp only [List.getElem?_toArray, List.getElem?_cons_succ, List.getElem?_cons_zero]; rfl)
            case hy184 => (refine Or.inl ⟨by rfl, ?_⟩; intro w hSw; (try dsimp only at hSw); go_simp; try with_reducible rfl)
            case hq184 => exact fun _ _ _ h => h
            try simp only [Act.put, List.setIfInBounds_toArray, List.set_cons_zero, List.set_cons_succ]
            refine wpAnyH_take (i := 13) (oi := ?oi185) (v := ?v185) ?hi185 (by kernel_rfl) (by kernel_rfl) (by kernel_rfl) ?hq185 ?hy185 hHeld ?rest185
            case hi185 => (simp only [List.getElem?_toArray, List.getElem?_cons_succ, List.getElem?_cons_zero]; rfl)
            case hy185 => (refine Or.inl ⟨by rfl, ?_⟩; intro w hSw; (try dsimp only at hSw); go_simp; try with_reducible rfl)
            case hq185 => exact fun _ _ _ h => h
            try simp only [Act.put, List.setIfInBounds_toArray, List.set_cons_zero, List.set_cons_succ]
            refine wpAnyH_take (i := 14) (oi := ?oi186) (v := ?v186) ?hi186 (by kernel_rfl) (by kernel_rfl) (by kernel_rfl) ?hq186 ?hy186 hHeld ?rest186
            case hi186 => (simp only [List.getElem?_toArray, List.getElem?_cons_succ, List.getElem?_cons_zero]; rfl)
            case hy186 => (refine Or.inl ⟨by rfl, ?_⟩; intro w hSw; (try dsimp only at hSw); go_simp; try with_reducible rfl)
            case hq186 => exact fun _ _ _ h => h
            try simp only [Act.put, List.setIfInBounds_toArray, List.set_cons_zero, List.set_cons_succ]
            refine wpAnyH_take (i := 15) (oi := ?oi187) (v := ?v187) ?hi187 (by kernel_rfl) (by kernel_rfl) (by kernel_rfl) ?hq187 ?hy187 hHeld ?rest187
            case hi187 => (simp only [List.getElem?_toArray, List.getElem?_cons_succ, List.getElem?_cons_zero]; rfl)
            case hy187 => (refine Or.inl ⟨by rfl, ?_⟩; intro w hSw; (try dsimp only at hSw); go_simp; try with_reducible rfl)
            case hq187 => exact fun _ _ _ h => h
            try simp only [Act.put, List.setIfInBounds_toArray, List.set_cons_zero, List.set_cons_succ]
            refine wpAnyH_take (i := 17) (oi := ?oi188) (v := ?v188) ?hi188 (by kernel_rfl) (by kernel_rfl) (by kernel_rfl) ?hq188 ?hy188 hHeld ?rest188
            case hi188 => (simp only [List.getElem?_toArray, List.getElem?_cons_succ, List.getElem?_cons_zero]; rfl)
            case hy188 => (refine Or.inl ⟨by rfl, ?_⟩; intro w hSw; (try dsimp only at hSw); go_simp; try with_reducible rfl)
            case hq188 => exact fun _ _ _ h => h
            try simp only [Act.put, List.setIfInBounds_toArray, List.set_cons_zero, List.set_cons_succ]
            refine wpAnyH_take (i := 18) (oi := ?oi189) (v := ?v189) ?hi189 (by kernel_rfl) (by kernel_rfl) (by kernel_rfl) ?hq189 ?hy189 hHeld ?rest189
            case hi189 => (simp only [List.getElem?_toArray, List.getElem?_cons_succ, List.getElem?_cons_zero]; rfl)
            case hy189 => (refine Or.inl ⟨by rfl, ?_⟩; intro w hSw; (try dsimp only at hSw); go_simp; try with_reducible rfl)
            case hq189 => exact fun _ _ _ h => h
            try simp only [Act.put, List.setIfInBounds_toArray, List.set_cons_zero, List.set_cons_succ]
            refine wpAnyH_take (i := 19) (oi := ?oi190) (v := ?v190) ?hi190 (by kernel_rfl) (by kernel_rfl) (by kernel_rfl) ?hq190 ?hy190 hHeld ?rest190
            case hi190 => (simp only [List.getElem?_toArray, List.getElem?_cons_succ, List.getElem?_cons_zero]; rfl)
            case hy190 => (refine Or.inl ⟨by rfl, ?_⟩; intro w hSw; (try dsimp only at hSw); go_simp; try with_reducible rfl)
            case hq190 => exact fun _ _ _ h => h
            try simp only [Act.put, List.setIfInBounds_toArray, List.set_cons_zero, List.set_cons_succ]
            refine wpAnyH_take (i := 20) (oi := ?oi191) (v := ?v191) ?hi191 (by kernel_rfl) (by kernel_rfl) (by kernel_rfl) ?hq191 ?hy191 hHeld ?rest191
            case hi191 => (simp only [List.getElem?_toArray, List.getElem?_cons_succ, List.getElem?_cons_zero]; rfl)
            case hy191 => (refine Or.inl ⟨by rfl, ?_⟩; intro w hSw; (try dsimp only at hSw); go_simp; try with_reducible rfl)
            case hq191 => exact fun _ _ _ h => h
            try simp only [Act.put, List.setIfInBounds_toArray, List.set_cons_zero, List.set_cons_succ]
            refine wpAnyH_take (i := 21) (oi := ?oi192) (v := ?v192) ?hi192 (by kernel_rfl) (by kernel_rfl) (by kernel_rfl) ?hq192 ?hy192 hHeld ?rest192
            case hi192 => (simp only [List.getElem?_toArray, List.getElem?_cons_succ, List.getElem?_cons_zero]; rfl)
            case hy192 => (refine Or.inl ⟨by rfl, ?_⟩; intro w hSw; (try dsimp only at hSw); go_simp; try with_reducible rfl)
            case hq192 => exact fun _ _ _ h => h
            try simp only [Act.put, List.setIfInBounds_toArray, List.set_cons_zero, List.set_cons_succ]
            refine wpAnyH_take (i := 22) (oi := ?oi193) (v := ?v193) ?hi193 (by kernel_rfl) (by kernel_rfl) (by kernel_rfl) ?hq193 ?hy193 hHeld ?rest193
            case hi193 => (simp only [List.getElem?_toArray, List.getElem?_cons_succ, List.getElem?_cons_zero]; rfl)
            case hy193 => (refine Or.inl ⟨by rfl, ?_⟩; intro w hSw; (try dsimp only at hSw); go_simp; try with_reducible rfl)
            case hq193 => exact fun _ _ _ h => h
            try simp only [Act.put, List.setIfInBounds_toArray, List.set_cons_zero, List.set_cons_succ]
            refine wpAnyH_take (i := 23) (oi := ?oi194) (v := ?v194) ?hi194 (by kernel_rfl) (by kernel_rfl) (by kernel_rfl) ?hq194 ?hy194 hHeld ?rest194
            case hi194 => (simp only [List.getElem?_toArray, List.getElem?_cons_succ, List.getElem?_cons_zero]; rfl)
            case hy194 => (refine Or.inl ⟨by rfl, ?_⟩; intro w hSw; (try dsimp only at hSw); go_simp; try with_reducible rfl)
            case hq194 => exact fun _ _ _ h => h
            try simp only [Act.put, List.setIfInBounds_toArray, List.set_cons_zero, List.set_cons_succ]
            refine wpAnyH_ready (rs := [16]) (by kernel_rfl) (by simp) ?_
            refine AllReadyH.cons (o := ?oi195) ?hi195 (fun K hK => ?_) AllReadyH.nil
            case hi195 => (simp only [List.getElem?_toArray, List.getElem?_cons_succ, List.getElem?_cons_zero]; rfl)
            go_simp
            go_at_call 15
            refine (m9_suits (w := w16) H FG.out FX.out HT.out HG.out HXI.out S1.out).mono ?_
            rintro e w17 ⟨rfl, hb⟩
            have HYq := Lib.hid (HY.out.trans (hb.mono HY.out.size))
            clear HY
            have HY := HYq
            clear HYq
            have HBq := Lib.hid (HB.out.trans (hb.mono HB.out.size))
            clear HB
            have HB := HBq
            clear HBq
            have HR1q := Lib.hid (HR1.out.trans (hb.mono HR1.out.size))
            clear HR1
            have HR1 := HR1q
            clear HR1q
            have HGq := Lib.hid (HG.out.next hb)
            clear HG
            have HG := HGq
            clear HGq
            have FGq := Lib.hid (FG.out.next hb)
            clear FG
            have FG := FGq
            clear FGq
            have FFq := Lib.hid (FF.out.next hb)
            clear FF
            have FF := FFq
            clear FFq
            have FMq := Lib.hid (FM.out.next hb)
            clear FM
            have FM := FMq
            clear FMq
            have BXq := Lib.hid (BX.out.next hb)
            clear BX
            have BX := BXq
            clear BXq
            have BTq := Lib.hid (BT.out.next hb)
            clear BT
            have BT := BTq
            clear BTq
            have FLq := Lib.hid (FL.out.next hb)
            clear FL
            have FL := FLq
            clear FLq
            have FXq := Lib.hid (FX.out.next hb)
            clear FX
            have FX := FXq
            clear FXq
            have FYq := Lib.hid (FY.out.next hb)
            clear FY
            have FY := FYq
            clear FYq
            have FNq := Lib.hid (FN.out.next hb)
            clear FN
            have FN := FNq
            clear FNq
            have CLq := Lib.hid (CL.out.next hb)
            clear CL
            have CL := CLq
            clear CLq
            have FUq := Lib.hid (FU.out.next hb)
            clear FU
            have FU := FUq
            clear FUq
            clear hb
            try go_wp2_with fail
            clear hHeld
            refine hK.out _ _ (HKEEP.out _ HY.out) (fun hHeld => ?_)
            clear hK K
            try simp only [Act.put, List.setIfInBounds_toArray, List.set_cons_zero, List.set_cons_succ]
            refine wpAnyH_ready (rs := [24]) (by kernel_rfl) (by simp) ?_
            refine AllReadyH.cons (o := ?oi196) ?hi196 (fun K hK => ?_) AllReadyH.nil
            case hi196 => (simp only [List.getElem?_toArray, List.getElem?_cons_succ, List.getElem?_cons_zero]; rfl)
            go_simp
            go_at_call 15
            refine (m9_suits (w := w17) H FG.out FF.out HT.out HG.out HXI.out S2.out).mono ?_
            rintro e w18 ⟨rfl, hb⟩
            have HYq := Lib.hid (HY.out.trans (hb.mono HY.out.size))
            clear HY
            have HY := HYq
            clear HYq
            have HBq := Lib.hid (HB.out.trans (hb.mono HB.out.size))
            clear HB
            have HB := HBq
            clear HBq
            have HR1q := Lib.hid (HR1.out.trans (hb.mono HR1.out.size))
            clear HR1
            have HR1 := HR1q
            clear HR1q
            have HGq := Lib.hid (HG.out.next hb)
            clear HG
            have HG := HGq
            clear HGq
            have FGq := Lib.hid (FG.out.next hb)
            clear FG
            have FG := FGq
            clear FGq
            have FFq := Lib.hid (FF.out.next hb)
            clear FF
            have FF := FFq
            clear FFq
            have FMq := Lib.hid (FM.out.next hb)
            clear FM
            have FM := FMq
            clear FMq
            have BXq := Lib.hid (BX.out.next hb)
            clear BX
            have BX := BXq
            clear BXq
            have BTq := Lib.hid (BT.out.next hb)
            clear BT
            have BT := BTq
            clear BTq
            have FLq := Lib.hid (FL.out.next hb)
            clear FL
            have FL := FLq
            clear FLq
            have FXq := Lib.hid (FX.out.next hb)
            clear FX
            have FX := FXq
            clear FXq
            have FYq := Lib.hid (FY.out.next hb)
            clear FY
            have FY := FYq
            clear FYq
            have FNq := Lib.hid (FN.out.next hb)
            clear FN
            have FN := FNq
            clear FNq
            have CLq := Lib.hid (CL.out.next hb)
            clear CL
            have CL := CLq
            clear CLq
            have FUq := Lib.hid (FU.out.next hb)
            clear FU
            have FU := FUq
            clear FUq
            clear hb
            try go_wp2_with fail
            clear hHeld
            refine hK.out _ _ (HKEEP.out _ HY.out) (fun hHeld => ?_)
            clear hK K
            try simp only [Act.put, List.setIfInBounds_toArray, List.set_cons_zero, List.set_cons_succ]
            refine wpAnyH_take (i := 25) (oi := ?oi197) (v := ?v197) ?hi197 (by kernel_rfl) (by kernel_rfl) (by kernel_rfl) ?hq197 ?hy197 hHeld ?rest197
            case hi197 => (simp only [List.getElem?_toArray, List.getElem?_cons_succ, List.getElem?_cons_zero]; rfl)
            case hy197 => (refine Or.inl ⟨by rfl, ?_⟩; intro w hSw; (try dsimp only at hSw); go_simp; try with_reducible rfl)
            case hq197 => exact fun _ _ _ h => h
            try simp only [Act.put, List.setIfInBounds_toArray, List.set_cons_zero, List.set_cons_succ]
            refine wpAnyH_take (i := 26) (oi := ?oi198) (v := ?v198) ?hi198 (by kernel_rfl) (by kernel_rfl) (by kernel_rfl) ?hq198 ?hy198 hHeld ?rest198
            case hi198 => (simp only [List.getElem?_toArray, List.getElem?_cons_succ, List.getElem?_cons_zero]; rfl)
            case hy198 => (refine Or.inl ⟨by rfl, ?_⟩; intro w hSw; (try dsimp only at hSw); go_simp; try with_reducible rfl)
            case hq198 => exact fun _ _ _ h => h
            try simp only [Act.put, List.setIfInBounds_toArray, List.set_cons_zero, List.set_cons_succ]
            refine wpAnyH_done (by kernel_rfl) ?_ _
            clear HKEEP HY hHeld
            go_wp2
            go_roundw
            case rel => exact ⟨k + 1, by omega, by go_num, HR1.out⟩
            case measure => simp [intOf]; omega
      · have hkl : k = L.length := by omega
        have hlt2 : ¬ L.length < L.length := Nat.lt_irrefl _
        rw [hkl]
        clear HR1
        go_wp2
        go_ret
        exact ⟨rfl, HB.out⟩

theorem matchMore_walk (H : MatchOk) (GO : GraphOk) (A : Option Addr) (n c : Nat) (A2 : Option Addr) (n2 c2 : Nat) (A3 : Option Addr) (n3 c3 : Nat) (g : Gr) (F F3 : List Int) (s t : Sp) (w : World) (hr : RG w w.heap.size A n g) (hnil : A = none → c = 0) (hnc : n ≤ c) (hn : n ≤ maxLen) (hr2 : RI w w.heap.size A2 n2 F) (hj2 : ∀ x ∈ F, I64 x) (hnil2 : A2 = none → c2 = 0) (hnc2 : n2 ≤ c2) (hn2 : n2 ≤ maxLen) (hr3 : RI w w.heap.size A3 n3 F3) (hj3 : ∀ x ∈ F3, I64 x) (hnil3 : A3 = none → c3 = 0) (hnc3 : n3 ≤ c3) (hn3 : n3 ≤ maxLen) (hs : SAsk s) (ht : SAsk t) (hG : Glob w) :
    Calls Tryd.prog 4 #[.slice A n c, .slice A2 n2 c2, .slice A3 n3 c3, .agg #[.int .i64 s.nodes, .int .i64 s.cores, .int .i64 s.gpus, .string s.tag, .bool s.whole, .int .i64 s.long, .int .i64 s.prio], .agg #[.int .i64 t.nodes, .int .i64 t.cores, .int .i64 t.gpus, .string t.tag, .bool t.whole, .int .i64 t.long, .int .i64 t.prio]] w fun e w' => e = .returned (.bool true) ∧ Below w.heap.size w w' := by
  by_cases h60 : 60 < n
  · exact matchMore_l0 H GO A n c A2 n2 c2 A3 n3 c3 s t w h60 hn hG
  · have hg : GAsk w A n c g := ⟨hr, hnil, hnc, by omega⟩
    have hf : WAsk w A2 n2 c2 F := ⟨hr2, hnil2, hnc2, hn2, hj2⟩
    have hm : WAsk w A3 n3 c3 F3 := ⟨hr3, hnil3, hnc3, hn3, hj3⟩
    cases h1 : rightB F with
    | false => exact matchMore_w1 H GO A n c A2 n2 c2 A3 n3 c3 g F F3 s t w hg hf hm h60 hG h1
    | true =>
      cases h2 : rightB F3 with
      | false => exact matchMore_w2 H GO A n c A2 n2 c2 A3 n3 c3 g F F3 s t w hg hf hm h60 hG h1 h2
      | true =>
        cases h3 : rightG g with
        | false => exact matchMore_w3 H GO A n c A2 n2 c2 A3 n3 c3 g F F3 s t w hg hf hm h60 hG h1 h2 h3
        | true =>
          have hf' : LAsk w A2 n2 c2 F := ⟨hr2, hnil2, hnc2, by have := right_few h1; have := hr2.1; omega, hj2⟩
          have hm' : LAsk w A3 n3 c3 F3 := ⟨hr3, hnil3, hnc3, by have := right_few h2; have := hr3.1; omega, hj3⟩
          cases hb : hadB g F s with
          | false => exact matchMore_m0 H GO A n c A2 n2 c2 A3 n3 c3 g F F3 s t w hg hf' hm' hs ht h60 hG h1 h2 h3 hb
          | true => exact matchMore_m1 H GO A n c A2 n2 c2 A3 n3 c3 g F F3 s t w hg hf' hm' hs ht h60 hG h1 h2 h3 hb

end Go.Proofs.YtglboolijhekkaaDoor
