/- The program's functions of layer 9 (match): the list of contracts that the statements' walks lean on, held. Written by gen/gen_matchpok.py. The program's Ends of layer 7 (spec), and what later layers ask of it: Right and Ends. The program's functions of layer 13 keep their contracts. Written by gen/gen_slotp.py. The program's functions of layer 14 keep their contracts. Written by gen/gen_pick.py. -/
import Derived.Deep.RegionHeld3
import Derived.Test.YtchogijdkagiiaaGreatDoorMg15
import Derived.OwnWalk
import Derived.Test.YtchogijdkagiiaaGreatDoorMg04
import Derived.Test.YtchogijdkagiiaaGreatDoorMg07
import Derived.Test.YtchogijdkagiiaaGreatDoorMg12
import Derived.Test.YtchogijdkagiiaaGreatDoorMg09
namespace Go.Proofs.YtchogijdkagiiaaGreatDoor
open Go.RowKit

set_option maxRecDepth 100000 in
set_option maxHeartbeats 8000000 in
theorem suiting_noa (A : Option Addr) (n c : Nat) (A2 : Option Addr) (n2 c2 : Nat) (g : Gr) (F : List Int) (s : Sp) (w : World) (hg : GAsk w A n c g) (hf : LAsk w A2 n2 c2 F) (hs : SAsk s) (hrg : rightG g = false) :
    Calls Tryz.prog 85 #[.slice A n c, .slice A2 n2 c2, .agg #[.int .i64 s.nodes, .int .i64 s.cores, .int .i64 s.gpus, .string s.tag, .bool s.whole, .int .i64 s.long, .int .i64 s.prio]] w (IPost [] w) := by
  obtain ⟨W, hW⟩ : ∃ W, W = (w.alloc (.cells #[.slice A n c] 22)).alloc (spO s) := ⟨_, rfl⟩
  have hb0 : Below w.heap.size w W := by rw [hW]; exact ((Below.refl _ _).alloc (Nat.le_refl _) _).alloc (by simp) _
  have CG : Hid (CellK W ⟨w.heap.size, 0, none⟩ (.slice A n c)) := Lib.hid (by
    rw [hW]
    refine ⟨by simp; omega, ?_⟩
    rw [World.cell?_alloc_past (w := w.alloc _) _ _ _ (by simp), World.cell?_alloc_at _ _ _ _ rfl]
    rfl)
  have BX : Hid (BoxS W (w.heap.size + 1) s) := Lib.hid (by
    have := box_new (w.alloc (.cells #[.slice A n c] 22)) s
    rw [World.size_alloc] at this
    rw [hW]; exact this)
  have HB := Lib.hid hb0
  have FG := Lib.hid (hg.next hb0)
  have FF := Lib.hid (hf.next hb0)
  have HS := Lib.hid hs
  have HG0 := Lib.hid hg
  have RG' := Lib.hid hrg
  unfold spO at hW
  clear hb0 hg hf hs hrg
  have cg := CG.out.at'
  go_enter Tryz.func85, Tryz.ntmps85
  go_wp2_with fail
  rw [← hW]
  refine (graphRight_b FG.out.reads (ml300 FG.out.few) RG'.out).mono ?_
  rintro e w1 ⟨rfl, hb⟩
  replace HB := Lib.hid (HB.out.trans (hb.mono HB.out.size))
  replace CG := Lib.hid (CG.out.next hb)
  replace BX := Lib.hid (BX.out.next hb)
  replace FG := Lib.hid (FG.out.next hb)
  replace FF := Lib.hid (FF.out.next hb)
  clear hb
  clear hW cg
  go_wp2
  go_ret
  exact ipost_nil HB.out
set_option maxRecDepth 100000 in
set_option maxHeartbeats 8000000 in
theorem suiting_nob (A : Option Addr) (n c : Nat) (A2 : Option Addr) (n2 c2 : Nat) (g : Gr) (F : List Int) (s : Sp) (w : World) (hg : GAsk w A n c g) (hf : LAsk w A2 n2 c2 F) (hs : SAsk s) (hrg : rightG g = true) (hrF : rightB F = false) :
    Calls Tryz.prog 85 #[.slice A n c, .slice A2 n2 c2, .agg #[.int .i64 s.nodes, .int .i64 s.cores, .int .i64 s.gpus, .string s.tag, .bool s.whole, .int .i64 s.long, .int .i64 s.prio]] w (IPost [] w) := by
  obtain ⟨W, hW⟩ : ∃ W, W = (w.alloc (.cells #[.slice A n c] 22)).alloc (spO s) := ⟨_, rfl⟩
  have hb0 : Below w.heap.size w W := by rw [hW]; exact ((Below.refl _ _).alloc (Nat.le_refl _) _).alloc (by simp) _
  have CG : Hid (CellK W ⟨w.heap.size, 0, none⟩ (.slice A n c)) := Lib.hid (by
    rw [hW]
    refine ⟨by simp; omega, ?_⟩
    rw [World.cell?_alloc_past (w := w.alloc _) _ _ _ (by simp), World.cell?_alloc_at _ _ _ _ rfl]
    rfl)
  have BX : Hid (BoxS W (w.heap.size + 1) s) := Lib.hid (by
    have := box_new (w.alloc (.cells #[.slice A n c] 22)) s
    rw [World.size_alloc] at this
    rw [hW]; exact this)
  have HB := Lib.hid hb0
  have FG := Lib.hid (hg.next hb0)
  have FF := Lib.hid (hf.next hb0)
  have HS := Lib.hid hs
  have HG0 := Lib.hid hg
  have RG' := Lib.hid hrg
  have RF := Lib.hid hrF
  unfold spO at hW
  clear hb0 hg hf hs hrg hrF
  have cg := CG.out.at'
  go_enter Tryz.func85, Tryz.ntmps85
  go_wp2_with fail
  rw [← hW]
  refine (graphRight_b FG.out.reads (ml300 FG.out.few) RG'.out).mono ?_
  rintro e w1 ⟨rfl, hb⟩
  replace HB := Lib.hid (HB.out.trans (hb.mono HB.out.size))
  replace CG := Lib.hid (CG.out.next hb)
  replace BX := Lib.hid (BX.out.next hb)
  replace FG := Lib.hid (FG.out.next hb)
  replace FF := Lib.hid (FF.out.next hb)
  clear hb
  clear hW cg
  go_wp2_with fail
  refine (s_isSet FF.out.reads (ml300 FF.out.few) RF.out).mono ?_
  rintro e w2 ⟨rfl, hb⟩
  replace HB := Lib.hid (HB.out.trans (hb.mono HB.out.size))
  replace CG := Lib.hid (CG.out.next hb)
  replace BX := Lib.hid (BX.out.next hb)
  replace FG := Lib.hid (FG.out.next hb)
  replace FF := Lib.hid (FF.out.next hb)
  clear hb
  go_wp2
  go_ret
  exact ipost_nil HB.out
set_option maxRecDepth 100000 in
set_option maxHeartbeats 8000000 in
theorem suiting_noc (A : Option Addr) (n c : Nat) (A2 : Option Addr) (n2 c2 : Nat) (g : Gr) (F : List Int) (s : Sp) (w : World) (hg : GAsk w A n c g) (hf : LAsk w A2 n2 c2 F) (hs : SAsk s) (hrg : rightG g = true) (hrF : rightB F = true) (hrs : rightS s = false) :
    Calls Tryz.prog 85 #[.slice A n c, .slice A2 n2 c2, .agg #[.int .i64 s.nodes, .int .i64 s.cores, .int .i64 s.gpus, .string s.tag, .bool s.whole, .int .i64 s.long, .int .i64 s.prio]] w (IPost [] w) := by
  obtain ⟨W, hW⟩ : ∃ W, W = (w.alloc (.cells #[.slice A n c] 22)).alloc (spO s) := ⟨_, rfl⟩
  have hb0 : Below w.heap.size w W := by rw [hW]; exact ((Below.refl _ _).alloc (Nat.le_refl _) _).alloc (by simp) _
  have CG : Hid (CellK W ⟨w.heap.size, 0, none⟩ (.slice A n c)) := Lib.hid (by
    rw [hW]
    refine ⟨by simp; omega, ?_⟩
    rw [World.cell?_alloc_past (w := w.alloc _) _ _ _ (by simp), World.cell?_alloc_at _ _ _ _ rfl]
    rfl)
  have BX : Hid (BoxS W (w.heap.size + 1) s) := Lib.hid (by
    have := box_new (w.alloc (.cells #[.slice A n c] 22)) s
    rw [World.size_alloc] at this
    rw [hW]; exact this)
  have HB := Lib.hid hb0
  have FG := Lib.hid (hg.next hb0)
  have FF := Lib.hid (hf.next hb0)
  have HS := Lib.hid hs
  have HG0 := Lib.hid hg
  have RG' := Lib.hid hrg
  have RF := Lib.hid hrF
  have RS := Lib.hid hrs
  unfold spO at hW
  clear hb0 hg hf hs hrg hrF hrs
  have cg := CG.out.at'
  go_enter Tryz.func85, Tryz.ntmps85
  go_wp2_with fail
  rw [← hW]
  refine (graphRight_b FG.out.reads (ml300 FG.out.few) RG'.out).mono ?_
  rintro e w1 ⟨rfl, hb⟩
  replace HB := Lib.hid (HB.out.trans (hb.mono HB.out.size))
  replace CG := Lib.hid (CG.out.next hb)
  replace BX := Lib.hid (BX.out.next hb)
  replace FG := Lib.hid (FG.out.next hb)
  replace FF := Lib.hid (FF.out.next hb)
  clear hb
  clear hW cg
  go_wp2_with fail
  refine (s_isSet FF.out.reads (ml300 FF.out.few) RF.out).mono ?_
  rintro e w2 ⟨rfl, hb⟩
  replace HB := Lib.hid (HB.out.trans (hb.mono HB.out.size))
  replace CG := Lib.hid (CG.out.next hb)
  replace BX := Lib.hid (BX.out.next hb)
  replace FG := Lib.hid (FG.out.next hb)
  replace FF := Lib.hid (FF.out.next hb)
  clear hb
  have q0 := BX.out.c0
  have q1 := BX.out.c1
  have q2 := BX.out.c2
  have q3 := BX.out.c3
  have q4 := BX.out.c4
  have q5 := BX.out.c5
  have q6 := BX.out.c6
  go_wp2_with fail
  refine (specRight_b HS.out RS.out).mono ?_
  rintro e w3 ⟨rfl, hb⟩
  replace HB := Lib.hid (HB.out.trans (hb.mono HB.out.size))
  replace CG := Lib.hid (CG.out.next hb)
  replace BX := Lib.hid (BX.out.next hb)
  replace FG := Lib.hid (FG.out.next hb)
  replace FF := Lib.hid (FF.out.next hb)
  clear hb
  clear q0 q1 q2 q3 q4 q5 q6
  go_wp2
  go_ret
  exact ipost_nil HB.out
theorem suiting_any (A : Option Addr) (n c : Nat) (A2 : Option Addr) (n2 c2 : Nat) (g : Gr) (F : List Int) (s : Sp) (w : World) (hg : GAsk w A n c g) (hf : LAsk w A2 n2 c2 F) (hs : SAsk s) : Calls Tryz.prog 85 #[.slice A n c, .slice A2 n2 c2, .agg #[.int .i64 s.nodes, .int .i64 s.cores, .int .i64 s.gpus, .string s.tag, .bool s.whole, .int .i64 s.long, .int .i64 s.prio]] w (IPost (suitL g F s) w) := by
  cases hm : mayB g F s with
  | true => exact suiting_yes A n c A2 n2 c2 g F s w hg hf hs hm
  | false =>
    rw [suitL_no hm]
    unfold mayB at hm
    cases h1 : rightG g with
    | false => exact suiting_noa A n c A2 n2 c2 g F s w hg hf hs h1
    | true =>
      cases h2 : rightB F with
      | false => exact suiting_nob A n c A2 n2 c2 g F s w hg hf hs h1 h2
      | true =>
        cases h3 : rightS s with
        | false => exact suiting_noc A n c A2 n2 c2 g F s w hg hf hs h1 h2 h3
        | true => rw [h1, h2, h3] at hm; cases hm

theorem RI.take {w : World} {B n k : Nat} {A : Option Addr} {xs : List Int} (h : RI w B A n xs) (hk : k ≤ n) : RI w B A k (xs.take k) := by
  refine ⟨by rw [List.length_take, h.1]; omega, fun h0 => ?_⟩
  obtain ⟨b, off, e, hb, hc⟩ := h.2 (by omega)
  refine ⟨b, off, e, hb, fun j hj => ?_⟩
  rw [hc j (by omega), List.getD, List.getD, List.getElem?_take_of_lt hj]
theorem fpostn_mk {A : Option Addr} {n c : Nat} {xs l : List Int} {w w' : World} {b b' : Bool} (hr : RIN w.heap.size w' A n xs) (hnil : A = none → c = 0) (hnc : n ≤ c) (hb : Below w.heap.size w w') (e : xs = l) (e2 : b' = b) : FPostN l b w (.returned (.tuple #[.slice A n c, .bool b'])) w' := by
  subst e e2
  have := hr.1
  subst this
  exact ⟨⟨A, c, rfl, hr, hnil, hnc⟩, hb⟩
set_option maxRecDepth 100000 in
set_option maxHeartbeats 8000000 in
theorem find_a (A : Option Addr) (n c : Nat) (A2 : Option Addr) (n2 c2 : Nat) (g : Gr) (F : List Int) (s : Sp) (w : World) (hg : GAsk w A n c g) (hf : LAsk w A2 n2 c2 F) (hs : SAsk s) (h0 : (suitL g F s).length = 0) :
    Calls Tryz.prog 71 #[.slice A n c, .slice A2 n2 c2, .agg #[.int .i64 s.nodes, .int .i64 s.cores, .int .i64 s.gpus, .string s.tag, .bool s.whole, .int .i64 s.long, .int .i64 s.prio]] w (FPostN [] false w) := by
  obtain ⟨W, hW⟩ : ∃ W, W = w.alloc (spO s) := ⟨_, rfl⟩
  have hb0 : Below w.heap.size w W := by rw [hW]; exact (Below.refl _ _).alloc (Nat.le_refl _) _
  have BX : Hid (BoxS W w.heap.size s) := Lib.hid (by rw [hW]; exact box_new w s)
  have HB := Lib.hid hb0
  have FG := Lib.hid (hg.next hb0)
  have FF := Lib.hid (hf.next hb0)
  have HS := Lib.hid hs
  unfold spO at hW
  clear hb0 hg hf hs
  have q0 := BX.out.c0
  have q1 := BX.out.c1
  have q2 := BX.out.c2
  have q3 := BX.out.c3
  have q4 := BX.out.c4
  have q5 := BX.out.c5
  have q6 := BX.out.c6
  have HFEW := Lib.hid (suitL_few (g := g) (F := F) (s := s))
  obtain ⟨l, hl⟩ : ∃ l, suitL g F s = l := ⟨_, rfl⟩
  have HL := Lib.hid hl
  rw [hl] at HFEW
  rw [hl] at h0
  obtain ⟨nl, hnl⟩ : ∃ nl, l.length = nl := ⟨_, rfl⟩
  have HNL := Lib.hid hnl
  rw [hnl] at h0
  subst h0
  clear hl hnl
  go_enter Tryz.func71, Tryz.ntmps71
  go_wp2_with fail
  rw [← hW]
  refine (calls_ipost (suiting_any _ _ _ _ _ _ _ _ _ _ FG.out FF.out HS.out) HL.out).mono ?_
  rintro e w1 ⟨⟨A1, c1, rfl, hr1, hnil1, hc1⟩, hb⟩
  replace HB := Lib.hid (HB.out.trans (hb.mono HB.out.size))
  replace BX := Lib.hid (BX.out.next hb)
  replace FG := Lib.hid (FG.out.next hb)
  replace FF := Lib.hid (FF.out.next hb)
  clear hb
  clear hr1 hnil1 hc1
  rw [HNL.out]
  clear hW
  go_wp2
  go_ret2
  exact fpostn_mk RIN.nil (fun _ => rfl) (Nat.le_refl _) HB.out rfl rfl
set_option maxRecDepth 100000 in
set_option maxHeartbeats 8000000 in
theorem find_b (A : Option Addr) (n c : Nat) (A2 : Option Addr) (n2 c2 : Nat) (g : Gr) (F : List Int) (s : Sp) (w : World) (hg : GAsk w A n c g) (hf : LAsk w A2 n2 c2 F) (hs : SAsk s) (h0 : (suitL g F s).length ≠ 0) (h1 : ((suitL g F s).length : Int) < s.nodes) :
    Calls Tryz.prog 71 #[.slice A n c, .slice A2 n2 c2, .agg #[.int .i64 s.nodes, .int .i64 s.cores, .int .i64 s.gpus, .string s.tag, .bool s.whole, .int .i64 s.long, .int .i64 s.prio]] w (FPostN [] false w) := by
  obtain ⟨W, hW⟩ : ∃ W, W = w.alloc (spO s) := ⟨_, rfl⟩
  have hb0 : Below w.heap.size w W := by rw [hW]; exact (Below.refl _ _).alloc (Nat.le_refl _) _
  have BX : Hid (BoxS W w.heap.size s) := Lib.hid (by rw [hW]; exact box_new w s)
  have HB := Lib.hid hb0
  have FG := Lib.hid (hg.next hb0)
  have FF := Lib.hid (hf.next hb0)
  have HS := Lib.hid hs
  unfold spO at hW
  clear hb0 hg hf hs
  have q0 := BX.out.c0
  have q1 := BX.out.c1
  have q2 := BX.out.c2
  have q3 := BX.out.c3
  have q4 := BX.out.c4
  have q5 := BX.out.c5
  have q6 := BX.out.c6
  have HFEW := Lib.hid (suitL_few (g := g) (F := F) (s := s))
  obtain ⟨l, hl⟩ : ∃ l, suitL g F s = l := ⟨_, rfl⟩
  have HL := Lib.hid hl
  rw [hl] at HFEW
  rw [hl] at h0 h1
  obtain ⟨nl, hnl⟩ : ∃ nl, l.length = nl := ⟨_, rfl⟩
  have HNL := Lib.hid hnl
  rw [hnl] at h0 h1
  have d0 : ((nl : Int) == 0) = false := beq_eq_false_iff_ne.2 (by omega)
  have d00 : (nl == 0) = false := beq_eq_false_iff_ne.2 h0
  have d1 : decide ((nl : Int) < s.nodes) = true := decide_eq_true h1
  clear hl hnl
  go_enter Tryz.func71, Tryz.ntmps71
  go_wp2_with fail
  rw [← hW]
  refine (calls_ipost (suiting_any _ _ _ _ _ _ _ _ _ _ FG.out FF.out HS.out) HL.out).mono ?_
  rintro e w1 ⟨⟨A1, c1, rfl, hr1, hnil1, hc1⟩, hb⟩
  replace HB := Lib.hid (HB.out.trans (hb.mono HB.out.size))
  replace BX := Lib.hid (BX.out.next hb)
  replace FG := Lib.hid (FG.out.next hb)
  replace FF := Lib.hid (FF.out.next hb)
  clear hb
  clear hr1 hnil1 hc1
  rw [HNL.out]
  clear hW
  clear q0 q1 q2 q3 q4 q5 q6
  have q0 := BX.out.c0
  have q1 := BX.out.c1
  have q2 := BX.out.c2
  have q3 := BX.out.c3
  have q4 := BX.out.c4
  have q5 := BX.out.c5
  have q6 := BX.out.c6
  go_wp2
  go_ret2
  exact fpostn_mk RIN.nil (fun _ => rfl) (Nat.le_refl _) HB.out rfl rfl
theorem take_k {A : Option Addr} {n c : Nat} {A2 : Option Addr} {n2 c2 : Nat} {A3 : Option Addr} {n3 c3 k : Nat} {g : Gr} {F : List Int} {s : Sp} {l : List Int} {w : World} (hk : s.nodes = (k : Int)) (hsel : l.take k = numsF (selP g F s) n) (hg : GAsk w A n c g) (hf : LAsk w A2 n2 c2 F) (hrg : rightG g = true) (hrF : rightB F = true) (hrs : rightS s = true) (hl : RI w w.heap.size A3 n3 l) (hkn : k ≤ n3) :
    Calls Tryz.prog 86 #[.slice A n c, .slice A2 n2 c2, .agg #[.int .i64 (k : Int), .int .i64 s.cores, .int .i64 s.gpus, .string s.tag, .bool s.whole, .int .i64 s.long, .int .i64 s.prio], .slice A3 k c3] w (IPostN (numsF (findP g F s) n) w) := by
  have h := take_any A n c A2 n2 c2 A3 k c3 g F s w hg.reads hrg hf.reads hrF hrs (by rw [← hsel]; exact hl.take hkn)
  rw [hk] at h
  exact h
set_option maxRecDepth 100000 in
set_option maxHeartbeats 8000000 in
theorem find_c (A : Option Addr) (n c : Nat) (A2 : Option Addr) (n2 c2 : Nat) (g : Gr) (F : List Int) (s : Sp) (w : World) (hg : GAsk w A n c g) (hf : LAsk w A2 n2 c2 F) (hs : SAsk s) (hm : mayB g F s = true) (h1 : s.nodes ≤ (suitL g F s).length) :
    Calls Tryz.prog 71 #[.slice A n c, .slice A2 n2 c2, .agg #[.int .i64 s.nodes, .int .i64 s.cores, .int .i64 s.gpus, .string s.tag, .bool s.whole, .int .i64 s.long, .int .i64 s.prio]] w (FPostN (findL g F s) true w) := by
  obtain ⟨hrg, hrF, hrs⟩ := mayB_is hm
  have hpos := (rightS_is hrs).2.1
  have hlen := hg.reads.len
  have hsel := sel_take hm (by omega)
  rw [hlen] at hsel
  have hfin : findL g F s = numsF (findP g F s) n := by
    unfold findL
    rw [if_pos (hadB_is.2 ⟨hm, by rw [← suitL_len hm]; exact h1⟩), hlen]
  rw [hfin]
  have HRG := Lib.hid hrg
  have HRF := Lib.hid hrF
  have HRS := Lib.hid hrs
  clear hfin hm hrg hrF hrs hlen
  obtain ⟨W, hW⟩ : ∃ W, W = w.alloc (spO s) := ⟨_, rfl⟩
  have hb0 : Below w.heap.size w W := by rw [hW]; exact (Below.refl _ _).alloc (Nat.le_refl _) _
  have BX : Hid (BoxS W w.heap.size s) := Lib.hid (by rw [hW]; exact box_new w s)
  have HB := Lib.hid hb0
  have FG := Lib.hid (hg.next hb0)
  have FF := Lib.hid (hf.next hb0)
  have HS := Lib.hid hs
  unfold spO at hW
  clear hb0 hg hf hs
  have q0 := BX.out.c0
  have q1 := BX.out.c1
  have q2 := BX.out.c2
  have q3 := BX.out.c3
  have q4 := BX.out.c4
  have q5 := BX.out.c5
  have q6 := BX.out.c6
  have HFEW := Lib.hid (suitL_few (g := g) (F := F) (s := s))
  obtain ⟨l, hl⟩ : ∃ l, suitL g F s = l := ⟨_, rfl⟩
  have HL := Lib.hid hl
  rw [hl] at HFEW
  rw [hl] at h1 hsel
  obtain ⟨nl, hnl⟩ : ∃ nl, l.length = nl := ⟨_, rfl⟩
  have HNL := Lib.hid hnl
  rw [hnl] at h1
  obtain ⟨k, hk⟩ : ∃ k : Nat, s.nodes = (k : Int) := ⟨s.nodes.toNat, by omega⟩
  rw [hk, Int.toNat_natCast] at hsel
  have HSEL := Lib.hid hsel
  have HK := Lib.hid hk
  have HKN : Hid (k ≤ nl) := Lib.hid (by omega)
  have hkn := HKN.out
  have hk0 : 1 ≤ k := by omega
  have d0 : ((nl : Int) == 0) = false := beq_eq_false_iff_ne.2 (by omega)
  have d00 : (nl == 0) = false := beq_eq_false_iff_ne.2 (by omega)
  have d1 : decide (nl < k) = false := decide_eq_false (by omega)
  clear hl hnl hsel hk h1 hpos
  go_enter Tryz.func71, Tryz.ntmps71
  go_wp2_with fail
  rw [← hW]
  refine (calls_ipost (suiting_any _ _ _ _ _ _ _ _ _ _ FG.out FF.out HS.out) HL.out).mono ?_
  rintro e w1 ⟨⟨A1, c1, rfl, hr1, hnil1, hc1⟩, hb⟩
  replace HB := Lib.hid (HB.out.trans (hb.mono HB.out.size))
  replace BX := Lib.hid (BX.out.next hb)
  replace FG := Lib.hid (FG.out.next hb)
  replace FF := Lib.hid (FF.out.next hb)
  clear hb
  have FL := Lib.hid hr1
  clear hr1 hnil1
  rw [HNL.out]
  clear hW
  clear q0 q1 q2 q3 q4 q5 q6
  rw [HNL.out] at FL hc1
  have hcz : (k : Int) ≤ (c1 : Int) := by omega
  have q0 := BX.out.c0
  rw [HK.out] at q0
  go_wp2
  have HKEEP : Hid (∀ wx, Below w1.drew.heap.size w1.drew wx → wx.cell? ⟨w.heap.size, 0, none⟩ = some (.int .i64 (k : Int)) ∧ wx.cell? ⟨w.heap.size, 1, none⟩ = some (.int .i64 s.cores) ∧ wx.cell? ⟨w.heap.size, 2, none⟩ = some (.int .i64 s.gpus) ∧ wx.cell? ⟨w.heap.size, 3, none⟩ = some (.string s.tag) ∧ wx.cell? ⟨w.heap.size, 4, none⟩ = some (.bool s.whole) ∧ wx.cell? ⟨w.heap.size, 5, none⟩ = some (.int .i64 s.long) ∧ wx.cell? ⟨w.heap.size, 6, none⟩ = some (.int .i64 s.prio)) := Lib.hid (fun wx hz' => by
    have hz := (bel_drew1 w1).trans (hz'.mono (bel_drew1 w1).size)
    exact ⟨keep_cell BX.out.lt (by rw [← HK.out]; exact BX.out.c0) hz, keep_cell BX.out.lt BX.out.c1 hz, keep_cell BX.out.lt BX.out.c2 hz, keep_cell BX.out.lt BX.out.c3 hz, keep_cell BX.out.lt BX.out.c4 hz, keep_cell BX.out.lt BX.out.c5 hz, keep_cell BX.out.lt BX.out.c6 hz⟩)
  have hd := bel_drew1 w1
  replace HB := Lib.hid (HB.out.trans (hd.mono HB.out.size))
  replace BX := Lib.hid (BX.out.next hd)
  replace FG := Lib.hid (FG.out.next hd)
  replace FF := Lib.hid (FF.out.next hd)
  replace FL := Lib.hid (FL.out.next hd)
  clear hd
  have HY := Lib.hid (Below.refl w1.drew.heap.size w1.drew)
  have HSZ := Lib.hid HB.out.size
  go_region_held3 (fun w' => w'.cell? ⟨w.heap.size, 0, none⟩ = some (.int .i64 (k : Int)) ∧ w'.cell? ⟨w.heap.size, 1, none⟩ = some (.int .i64 s.cores) ∧ w'.cell? ⟨w.heap.size, 2, none⟩ = some (.int .i64 s.gpus) ∧ w'.cell? ⟨w.heap.size, 3, none⟩ = some (.string s.tag) ∧ w'.cell? ⟨w.heap.size, 4, none⟩ = some (.bool s.whole) ∧ w'.cell? ⟨w.heap.size, 5, none⟩ = some (.int .i64 s.long) ∧ w'.cell? ⟨w.heap.size, 6, none⟩ = some (.int .i64 s.prio))
    (first | exact HKEEP.out _ (Below.refl _ _) | exact HKEEP.out _ HY.out | go_keep | fail)
    (first | (go_at_call 86; (with_reducible refine (take_k HK.out HSEL.out FG.out FF.out HRG.out HRF.out HRS.out FL.out HKN.out (w := w1.drew)).mono ?_); rintro e w2 ⟨⟨A2, c2, rfl, hr2, hnil2, hc2⟩, hb⟩; have HY := Lib.hid (HY.out.trans (hb.mono HY.out.size)); have HB := Lib.hid (HB.out.trans (hb.mono HB.out.size)); have BX := Lib.hid (BX.out.next hb); have FG := Lib.hid (FG.out.next hb); have FF := Lib.hid (FF.out.next hb); have FL := Lib.hid (FL.out.next hb); have F2 := Lib.hid (And.intro hr2 (And.intro hnil2 hc2)); clear hb) | fail)
  clear HKEEP HY
  go_wp2
  go_ret2
  exact fpostn_mk (F2.out.1.mono HSZ.out) F2.out.2.1 F2.out.2.2 HB.out rfl rfl
theorem find_any (A : Option Addr) (n c : Nat) (A2 : Option Addr) (n2 c2 : Nat) (g : Gr) (F : List Int) (s : Sp) (w : World) (hg : GAsk w A n c g) (hf : LAsk w A2 n2 c2 F) (hs : SAsk s) : Calls Tryz.prog 71 #[.slice A n c, .slice A2 n2 c2, .agg #[.int .i64 s.nodes, .int .i64 s.cores, .int .i64 s.gpus, .string s.tag, .bool s.whole, .int .i64 s.long, .int .i64 s.prio]] w (FPostN (findL g F s) (hadB g F s) w) := by
  by_cases h0 : (suitL g F s).length = 0
  · have hno : hadB g F s = false := by
      refine Bool.eq_false_iff.2 fun h => ?_
      obtain ⟨hm, hc⟩ := hadB_is.1 h
      have := (rightS_is (mayB_is hm).2.2).2.1
      rw [suitL_len hm] at h0
      omega
    rw [findL_no hno, hno]
    exact find_a A n c A2 n2 c2 g F s w hg hf hs h0
  · have hm : mayB g F s = true := by
      cases hm : mayB g F s with
      | true => rfl
      | false => rw [suitL_no hm] at h0; exact absurd rfl h0
    by_cases h1 : ((suitL g F s).length : Int) < s.nodes
    · have hno : hadB g F s = false := by
        refine Bool.eq_false_iff.2 fun h => ?_
        have hc := (hadB_is.1 h).2
        rw [suitL_len hm] at h1
        omega
      rw [findL_no hno, hno]
      exact find_b A n c A2 n2 c2 g F s w hg hf hs h0 h1
    · have hyes : hadB g F s = true := hadB_is.2 ⟨hm, by rw [← suitL_len hm]; omega⟩
      rw [hyes]
      exact find_c A n c A2 n2 c2 g F s w hg hf hs hm (by omega)


theorem matchOk_is : MatchOk where
  find := fun A n c A2 n2 c2 g F s w hg hf hs _ => find_any A n c A2 n2 c2 g F s w hg hf hs

end Go.Proofs.YtchogijdkagiiaaGreatDoor

namespace Go.Proofs.YtchogijdkagiiaaGreatDoor
open Go.RowKit

/-- one block laid: the spec that came in -/
theorem box_in {w W : World} {s : Sp} (hW : W = w.alloc (spO s)) : BoxS W w.heap.size s ∧ Below w.heap.size w W := by
  subst hW
  exact ⟨box_new w s, (Below.refl _ _).alloc (Nat.le_refl _) _⟩

set_option maxRecDepth 100000 in
set_option maxHeartbeats 2000000 in
theorem specEnds_any (s : Sp) (a : Int) (w : World) (hs : SAsk s) :
    Calls Tryz.prog 18 #[.agg #[.int .i64 s.nodes, .int .i64 s.cores, .int .i64 s.gpus, .string s.tag, .bool s.whole, .int .i64 s.long, .int .i64 s.prio], .int .i64 a] w fun e w' => e = .returned (.int .i64 (endsS s a)) ∧ Below w.heap.size w w' := by
  have HS := Lib.hid hs
  obtain ⟨W, hW⟩ : ∃ W, W = w.alloc (spO s) := ⟨_, rfl⟩
  have BX := Lib.hid (box_in hW).1
  have BW := Lib.hid (box_in hW).2
  unfold spO at hW
  clear hs
  cases hr : rightS s with
  | false =>
    have e0 : endsS s a = plusZ a 0 := by unfold endsS; rw [if_neg (by rw [hr]; simp)]
    rw [e0]
    have HR := Lib.hid hr
    clear hr e0
    go_enter Tryz.func18, Tryz.ntmps18
    go_wp2_with fail
    rw [← hW]
    refine (specRight_b HS.out HR.out).mono ?_
    rintro e w1 ⟨rfl, hb⟩
    have HB1 := Lib.hid (BW.out.trans (hb.mono BW.out.size))
    have BX1 := Lib.hid (BX.out.next hb)
    clear hb
    go_wp2_with fail
    refine (whenPlus_any _ _ _).mono ?_
    rintro e w2 ⟨rfl, rfl⟩
    go_wp2
    go_ret
    exact ⟨rfl, HB1.out⟩
  | true =>
    have e0 : endsS s a = plusZ a s.long := by unfold endsS; rw [if_pos hr]
    rw [e0]
    have HR := Lib.hid hr
    clear hr e0
    go_enter Tryz.func18, Tryz.ntmps18
    go_wp2_with fail
    rw [← hW]
    refine (specRight_b HS.out HR.out).mono ?_
    rintro e w1 ⟨rfl, hb⟩
    have HB1 := Lib.hid (BW.out.trans (hb.mono BW.out.size))
    have BX1 := Lib.hid (BX.out.next hb)
    clear hb
    have c0 := BX1.out.c0
    have c1 := BX1.out.c1
    have c2 := BX1.out.c2
    have c3 := BX1.out.c3
    have c4 := BX1.out.c4
    have c5 := BX1.out.c5
    have c6 := BX1.out.c6
    go_wp2_with fail
    refine (whenPlus_any _ _ _).mono ?_
    rintro e w2 ⟨rfl, rfl⟩
    go_wp2
    go_ret
    exact ⟨rfl, HB1.out⟩


theorem specOk_ends : SpecOk where
  right := fun s w hs _ => specRight_any s w hs
  ends := fun s a w hs _ _ => specEnds_any s a w hs

end Go.Proofs.YtchogijdkagiiaaGreatDoor

namespace Go.Proofs.YtchogijdkagiiaaGreatDoor
open Go.RowKit


theorem slotOk_is : SlotOk where
  first _ _ _ _ _ _ _ _ _ _ _ _ _ _ _ _ hg hu hl hf hs ht hv hG := slotFirst_any heldOk_is matchOk_is specOk_ends hg hu hl hf hs ht hv hG

end Go.Proofs.YtchogijdkagiiaaGreatDoor

namespace Go.Proofs.YtchogijdkagiiaaGreatDoor
open Go.RowKit

theorem pickOk_is : PickOk where
  pick _ _ _ _ _ _ _ _ _ _ _ _ _ _ _ _ _ _ _ _ _ hg hu hl hf hw hn hn3 ht hv _ _ hG := pickP_any slotOk_is heldOk_is specOk_ends hg hu hl hf hw hn hn3 ht hv hG
  later _ _ _ _ _ _ _ _ _ _ _ _ _ _ _ _ _ _ _ _ hg hu hl hf hl2 hf2 hs ht hv hG := pickPLater_any slotOk_is hg hu hl hf hl2 hf2 hs ht hv hG

end Go.Proofs.YtchogijdkagiiaaGreatDoor
