/- The program's keeps and first of layer 14. Written by gen/gen_pickp.py. The program's Pick of layer 14, by all policies. Written by gen/gen_pickp.py. The program's Pick and Later of layer 14. Written by gen/gen_pickp.py (Later: gen_pick.py). The program's at of layer 13. Written by gen/gen_slotp.py. -/
import Derived.Deep.RegionHeld3
import Derived.LoopTactic
import Derived.Test.YtchogijdkagiiaaGreatDoorMg07
import Derived.Test.YtchogijdkagiiaaGreatDoorMg08
import Derived.Test.YtchogijdkagiiaaGreatDoorMg05
import Derived.Test.YtchogijdkagiiaaGreatDoorMg04
import Derived.Deep.QuietTactic
namespace Go.Proofs.YtchogijdkagiiaaGreatDoor
open Go.RowKit

/-- how many later slots a policy keeps -/
def roomP (p d : Int) : Int := if p = 1 then 0 else if p = 2 then 1 else d
def KeepsP (p d : Int) : Prop := (p = 1 ∨ p = 2 ∨ p = 3) ∧ 0 ≤ d ∧ d ≤ 64
theorem proom_full {p d : Int} {k : Tb} (hp : p = 1 ∨ p = 2 ∨ p = 3) (h1 : ¬ p = 1) : fullP p d k = decide ((k.length : Int) = roomP p d) := by
  unfold fullP roomP
  rcases hp with rfl | rfl | rfl
  · exact absurd rfl h1
  · simp; omega
  · simp
set_option maxRecDepth 100000 in
set_option maxHeartbeats 8000000 in
theorem pkeeps_yes {p d : Int} {w : World} (h : KeepsP p d) : Calls Tryz.prog 26 #[.int .i64 p, .int .i64 d] w fun e w' => e = .returned (.tuple #[.int .i64 (roomP p d), .bool true]) ∧ Below w.heap.size w w' := by
  obtain ⟨hp, h0, h1⟩ := h
  have d0 : decide (d < 0) = false := decide_eq_false (by omega)
  have d1 : decide (64 < d) = false := decide_eq_false (by omega)
  have HB := Lib.hid (Below.refl w.heap.size w)
  clear h0 h1
  rcases hp with rfl | rfl | rfl
  · rw [show roomP 1 d = 0 from rfl]
    go_enter Tryz.func26, Tryz.ntmps26
    go_wp2
    go_ret2
    exact ⟨rfl, HB.out⟩
  · rw [show roomP 2 d = 1 from rfl]
    go_enter Tryz.func26, Tryz.ntmps26
    go_wp2
    go_ret2
    exact ⟨rfl, HB.out⟩
  · rw [show roomP 3 d = d from rfl]
    go_enter Tryz.func26, Tryz.ntmps26
    go_wp2
    go_ret2
    exact ⟨rfl, HB.out⟩
set_option maxRecDepth 100000 in
set_option maxHeartbeats 8000000 in
theorem pkeeps_no {p d : Int} {w : World} (h : ¬ KeepsP p d) : Calls Tryz.prog 26 #[.int .i64 p, .int .i64 d] w fun e w' => e = .returned (.tuple #[.int .i64 0, .bool false]) ∧ Below w.heap.size w w' := by
  have HB := Lib.hid (Below.refl w.heap.size w)
  by_cases h0 : d < 0
  · have d0 : decide (d < 0) = true := decide_eq_true h0
    clear h h0
    go_enter Tryz.func26, Tryz.ntmps26
    go_wp2
    go_ret2
    exact ⟨rfl, HB.out⟩
  · by_cases h1 : 64 < d
    · have d0 : decide (d < 0) = false := decide_eq_false h0
      have d1 : decide (64 < d) = true := decide_eq_true h1
      clear h h0 h1
      go_enter Tryz.func26, Tryz.ntmps26
      go_wp2
      go_ret2
      exact ⟨rfl, HB.out⟩
    · have d0 : decide (d < 0) = false := decide_eq_false h0
      have d1 : decide (64 < d) = false := decide_eq_false h1
      have z1 : (p == 1) = false := beq_false_of_ne (fun e => h ⟨Or.inl e, by omega, by omega⟩)
      have z2 : (p == 2) = false := beq_false_of_ne (fun e => h ⟨Or.inr (Or.inl e), by omega, by omega⟩)
      have z3 : (p == 3) = false := beq_false_of_ne (fun e => h ⟨Or.inr (Or.inr e), by omega, by omega⟩)
      clear h h0 h1
      go_enter Tryz.func26, Tryz.ntmps26
      go_wp2
      go_ret2
      exact ⟨rfl, HB.out⟩
theorem pfour_other {b g : Nat} {wr : World} {v0 v1 v2 v3 : Value} (h : b ≠ g) : ((((wr.setCell ⟨g, 0, none⟩ v0).setCell ⟨g, 1, none⟩ v1).setCell ⟨g, 2, none⟩ v2).setCell ⟨g, 3, none⟩ v3).heap[b]? = wr.heap[b]? := by
  rw [Below.heap_setCell _ _ _ _ h, Below.heap_setCell _ _ _ _ h, Below.heap_setCell _ _ _ _ h, Below.heap_setCell _ _ _ _ h]
theorem pfour_size {g : Nat} {wr : World} {v0 v1 v2 v3 : Value} : ((((wr.setCell ⟨g, 0, none⟩ v0).setCell ⟨g, 1, none⟩ v1).setCell ⟨g, 2, none⟩ v2).setCell ⟨g, 3, none⟩ v3).heap.size = wr.heap.size := by simp [World.setCell]
theorem BoxW.four {b g : Nat} {x : Wn} {wr : World} {v0 v1 v2 v3 : Value} (h : BoxW wr b x) (hn : b ≠ g) : BoxW ((((wr.setCell ⟨g, 0, none⟩ v0).setCell ⟨g, 1, none⟩ v1).setCell ⟨g, 2, none⟩ v2).setCell ⟨g, 3, none⟩ v3) b x :=
  ⟨by rw [pfour_size]; exact h.lt, (pfour_other hn).trans h.at'⟩
theorem rin_four {B g n : Nat} {wr : World} {A : Option Addr} {xs : List Int} {v0 v1 v2 v3 : Value} (h : RIN B wr A n xs) (hg : g < B) : RIN B ((((wr.setCell ⟨g, 0, none⟩ v0).setCell ⟨g, 1, none⟩ v1).setCell ⟨g, 2, none⟩ v2).setCell ⟨g, 3, none⟩ v3) A n xs :=
  RN.keep ei_steady h (fun b hb => pfour_other (by omega)) (fun b hb => ⟨hb.1, by rw [pfour_size]; exact hb.2⟩)
/-- a holding whose things lie in new memory, and true -/
def FHPost (h : Hd) (w : World) (e : Ending) (w' : World) : Prop :=
  (∃ A m c, e = .returned (.tuple #[.agg #[.int .i64 h.id, .slice A m c, .int .i64 h.frm, .int .i64 h.to], .bool true]) ∧ m = h.things.length ∧ RIN w.heap.size w' A m h.things ∧ (A = none → c = 0) ∧ m ≤ c) ∧ Below w.heap.size w w'
set_option maxRecDepth 100000 in
set_option maxHeartbeats 8000000 in
theorem pfirst_no (HS3 : SlotOk) {A A2 A3 : Option Addr} {n c n2 c2 n3 c3 : Nat} {g : Gr} {use : List Int} {l : Tb} {x : Wn} {t u : Int} {w : World} (hg : GAsk w A n c g) (hu : LAsk w A2 n2 c2 use) (hl : TAsk w A3 n3 c3 l) (hf : FewT l) (hs : SAsk x.spec) (ht : I64 t) (hv : I64 u) (hG : Glob w) (h1 : firstBS g use l x.spec t u = false) : Calls Tryz.prog 27 #[.slice A n c, .slice A2 n2 c2, .slice A3 n3 c3, .agg #[.int .i64 x.id, .int .i64 x.spec.nodes, .int .i64 x.spec.cores, .int .i64 x.spec.gpus, .string x.spec.tag, .bool x.spec.whole, .int .i64 x.spec.long, .int .i64 x.spec.prio], .int .i64 t, .int .i64 u] w fun e w' => e = .returned (.tuple #[.agg #[.int .i64 0, .slice none 0 0, .int .i64 0, .int .i64 0], .bool false]) ∧ Below w.heap.size w w' := by
  obtain ⟨W, hW⟩ : ∃ W, W = (w.alloc (.cells #[.int .i64 x.id, .int .i64 x.spec.nodes, .int .i64 x.spec.cores, .int .i64 x.spec.gpus, .string x.spec.tag, .bool x.spec.whole, .int .i64 x.spec.long, .int .i64 x.spec.prio] 43)).alloc (.cells #[.int .i64 0, .slice none 0 0, .int .i64 0, .int .i64 0] 41) := ⟨_, rfl⟩
  have hb0 : Below w.heap.size w W := by rw [hW]; exact ((Below.refl _ _).alloc (Nat.le_refl _) _).alloc (by simp) _
  have hbx : Below (w.alloc (.cells #[.int .i64 x.id, .int .i64 x.spec.nodes, .int .i64 x.spec.cores, .int .i64 x.spec.gpus, .string x.spec.tag, .bool x.spec.whole, .int .i64 x.spec.long, .int .i64 x.spec.prio] 43)).heap.size (w.alloc (.cells #[.int .i64 x.id, .int .i64 x.spec.nodes, .int .i64 x.spec.cores, .int .i64 x.spec.gpus, .string x.spec.tag, .bool x.spec.whole, .int .i64 x.spec.long, .int .i64 x.spec.prio] 43)) W := by rw [hW]; exact (Below.refl _ _).alloc (Nat.le_refl _) _
  have BW : Hid (BoxW W w.heap.size x) := Lib.hid ((boxW_new w x).next hbx)
  have BR : Hid (BoxH W (w.heap.size + 1) hd0 none 0 0) := Lib.hid (by
    have h := boxH_new (w.alloc (.cells #[.int .i64 x.id, .int .i64 x.spec.nodes, .int .i64 x.spec.cores, .int .i64 x.spec.gpus, .string x.spec.tag, .bool x.spec.whole, .int .i64 x.spec.long, .int .i64 x.spec.prio] 43)) hd0 none 0 0
    rw [show (w.alloc (.cells #[.int .i64 x.id, .int .i64 x.spec.nodes, .int .i64 x.spec.cores, .int .i64 x.spec.gpus, .string x.spec.tag, .bool x.spec.whole, .int .i64 x.spec.long, .int .i64 x.spec.prio] 43)).heap.size = w.heap.size + 1 by simp] at h
    rw [hW]; exact h)
  have HB := Lib.hid hb0
  have HSZ : Hid (w.heap.size + 1 < W.heap.size) := Lib.hid (by rw [hW]; simp)
  have HG := Lib.hid (hG.next hb0)
  have GA := Lib.hid (hg.next hb0)
  have UA := Lib.hid (hu.next hb0)
  have TA := Lib.hid (hl.next hb0)
  have HF := Lib.hid hf
  have HXS := Lib.hid hs
  have HT := Lib.hid ht
  have HV := Lib.hid hv
  clear hb0 hbx hg hu hl hf hs ht hv hG
  obtain ⟨ft, hft⟩ : ∃ y, firstAtS g use l x.spec t u = y := ⟨_, rfl⟩
  obtain ⟨fl, hfl⟩ : ∃ y, firstLS g use l x.spec t u = y := ⟨_, rfl⟩
  have K0 := Lib.hid hft
  have K1 := Lib.hid hfl
  have K2 := Lib.hid h1
  clear hft hfl h1
  go_enter Tryz.func27, Tryz.ntmps27
  have q0 := BW.out.c0
  have q1 := BW.out.c1
  have q2 := BW.out.c2
  have q3 := BW.out.c3
  have q4 := BW.out.c4
  have q5 := BW.out.c5
  have q6 := BW.out.c6
  have q7 := BW.out.c7
  go_wp2_with fail
  rw [← hW]
  refine (s13_firstN HS3 (s := x.spec) (t := t) (u := u) GA.out UA.out TA.out HF.out HXS.out HT.out HV.out HG.out K0.out K1.out K2.out).mono ?_
  rintro e w6 ⟨⟨A8, c8, rfl, hr8, hn8, hc8⟩, hb⟩
  replace BR := Lib.hid (BR.out.next hb)
  replace HB := Lib.hid (HB.out.trans (hb.mono HB.out.size))
  clear hb hr8 hn8 hc8 hW
  clear q0 q1 q2 q3 q4 q5 q6 q7
  have p0 := BR.out.c0
  have y0 := BR.out.frozen 0
  have p1 := BR.out.c1
  have y1 := BR.out.frozen 1
  have p2 := BR.out.c2
  have y2 := BR.out.frozen 2
  have p3 := BR.out.c3
  have y3 := BR.out.frozen 3
  go_wp2
  have b1 := BR.out.storeP4 hd0 none 0 0
  have r0 := b1.c0
  have r1 := b1.c1
  have r2 := b1.c2
  have r3 := b1.c3
  simp only [hd0] at r0 r1 r2 r3
  refine bodyPost_ret (v := .tuple #[.agg #[.int .i64 0, .slice none 0 0, .int .i64 0, .int .i64 0], .bool false]) (by simp [results, Tryz.results27, go_sem, r0, r1, r2, r3]) rfl ⟨rfl, below_store4 HB.out (Nat.le_succ _)⟩
set_option maxRecDepth 100000 in
set_option maxHeartbeats 8000000 in
theorem pfirst_yes (HS3 : SlotOk) (HSP : SpecOk) {A A2 A3 : Option Addr} {n c n2 c2 n3 c3 : Nat} {g : Gr} {use : List Int} {l : Tb} {x : Wn} {t u : Int} {w : World} (hg : GAsk w A n c g) (hu : LAsk w A2 n2 c2 use) (hl : TAsk w A3 n3 c3 l) (hf : FewT l) (hs : SAsk x.spec) (ht : I64 t) (hv : I64 u) (hG : Glob w) (h1 : firstBS g use l x.spec t u = true) : Calls Tryz.prog 27 #[.slice A n c, .slice A2 n2 c2, .slice A3 n3 c3, .agg #[.int .i64 x.id, .int .i64 x.spec.nodes, .int .i64 x.spec.cores, .int .i64 x.spec.gpus, .string x.spec.tag, .bool x.spec.whole, .int .i64 x.spec.long, .int .i64 x.spec.prio], .int .i64 t, .int .i64 u] w (FHPost (heldW g use l x t u) w) := by
  obtain ⟨W, hW⟩ : ∃ W, W = (w.alloc (.cells #[.int .i64 x.id, .int .i64 x.spec.nodes, .int .i64 x.spec.cores, .int .i64 x.spec.gpus, .string x.spec.tag, .bool x.spec.whole, .int .i64 x.spec.long, .int .i64 x.spec.prio] 43)).alloc (.cells #[.int .i64 0, .slice none 0 0, .int .i64 0, .int .i64 0] 41) := ⟨_, rfl⟩
  have hb0 : Below w.heap.size w W := by rw [hW]; exact ((Below.refl _ _).alloc (Nat.le_refl _) _).alloc (by simp) _
  have hbx : Below (w.alloc (.cells #[.int .i64 x.id, .int .i64 x.spec.nodes, .int .i64 x.spec.cores, .int .i64 x.spec.gpus, .string x.spec.tag, .bool x.spec.whole, .int .i64 x.spec.long, .int .i64 x.spec.prio] 43)).heap.size (w.alloc (.cells #[.int .i64 x.id, .int .i64 x.spec.nodes, .int .i64 x.spec.cores, .int .i64 x.spec.gpus, .string x.spec.tag, .bool x.spec.whole, .int .i64 x.spec.long, .int .i64 x.spec.prio] 43)) W := by rw [hW]; exact (Below.refl _ _).alloc (Nat.le_refl _) _
  have BW : Hid (BoxW W w.heap.size x) := Lib.hid ((boxW_new w x).next hbx)
  have BR : Hid (BoxH W (w.heap.size + 1) hd0 none 0 0) := Lib.hid (by
    have h := boxH_new (w.alloc (.cells #[.int .i64 x.id, .int .i64 x.spec.nodes, .int .i64 x.spec.cores, .int .i64 x.spec.gpus, .string x.spec.tag, .bool x.spec.whole, .int .i64 x.spec.long, .int .i64 x.spec.prio] 43)) hd0 none 0 0
    rw [show (w.alloc (.cells #[.int .i64 x.id, .int .i64 x.spec.nodes, .int .i64 x.spec.cores, .int .i64 x.spec.gpus, .string x.spec.tag, .bool x.spec.whole, .int .i64 x.spec.long, .int .i64 x.spec.prio] 43)).heap.size = w.heap.size + 1 by simp] at h
    rw [hW]; exact h)
  have HB := Lib.hid hb0
  have HSZ : Hid (w.heap.size + 1 < W.heap.size) := Lib.hid (by rw [hW]; simp)
  have HG := Lib.hid (hG.next hb0)
  have GA := Lib.hid (hg.next hb0)
  have UA := Lib.hid (hu.next hb0)
  have TA := Lib.hid (hl.next hb0)
  have HF := Lib.hid hf
  have HXS := Lib.hid hs
  have HT := Lib.hid ht
  have HV := Lib.hid hv
  clear hb0 hbx hg hu hl hf hs ht hv hG
  obtain ⟨ft, hft⟩ : ∃ y, firstAtS g use l x.spec t u = y := ⟨_, rfl⟩
  obtain ⟨fl, hfl⟩ : ∃ y, firstLS g use l x.spec t u = y := ⟨_, rfl⟩
  obtain ⟨ee, hee⟩ : ∃ y, endsS x.spec ft = y := ⟨_, rfl⟩
  have hhw : heldW g use l x t u = ⟨x.id, fl, ft, ee⟩ := by unfold heldW; rw [hft, hfl, hee]
  have HTI : Hid (I64 ft) := Lib.hid (by rw [← hft]; exact (first_int h1).1)
  have HENDW : Hid (∀ W : World, Glob W → Calls Tryz.prog 18 #[.agg #[.int .i64 x.spec.nodes, .int .i64 x.spec.cores, .int .i64 x.spec.gpus, .string x.spec.tag, .bool x.spec.whole, .int .i64 x.spec.long, .int .i64 x.spec.prio], .int .i64 ft] W fun e w' => e = .returned (.int .i64 ee) ∧ Below W.heap.size W w') := Lib.hid (fun W hgw => s7_ends HSP HXS.out hgw HTI.out hee)
  rw [hhw]
  have K0 := Lib.hid hft
  have K1 := Lib.hid hfl
  have K2 := Lib.hid h1
  clear hft hfl h1 hee hhw
  go_enter Tryz.func27, Tryz.ntmps27
  have q0 := BW.out.c0
  have q1 := BW.out.c1
  have q2 := BW.out.c2
  have q3 := BW.out.c3
  have q4 := BW.out.c4
  have q5 := BW.out.c5
  have q6 := BW.out.c6
  have q7 := BW.out.c7
  go_wp2_with fail
  rw [← hW]
  refine (s13_firstN HS3 (s := x.spec) (t := t) (u := u) GA.out UA.out TA.out HF.out HXS.out HT.out HV.out HG.out K0.out K1.out K2.out).mono ?_
  rintro e w6 ⟨⟨A8, c8, rfl, hr8, hn8, hc8⟩, hb⟩
  have HR8 : Hid (RIN W.heap.size w6 A8 fl.length fl) := Lib.hid hr8
  have HN8 : Hid ((A8 = none → c8 = 0) ∧ fl.length ≤ c8) := Lib.hid ⟨hn8, hc8⟩
  replace BR := Lib.hid (BR.out.next hb)
  replace BW := Lib.hid (BW.out.next hb)
  replace HG := Lib.hid (HG.out.next hb)
  replace HB := Lib.hid (HB.out.trans (hb.mono HB.out.size))
  clear hb hr8 hn8 hc8 hW
  clear q0 q1 q2 q3 q4 q5 q6 q7
  obtain ⟨m8, hm8⟩ : ∃ m8, fl.length = m8 := ⟨_, rfl⟩
  rw [hm8] at HR8 HN8 ⊢
  have HM8 := Lib.hid hm8
  clear hm8
  go_wp2
  have HKEEP : Hid (∀ wx, Below w6.drew.heap.size w6.drew wx → wx.cell? ⟨w.heap.size, 0, none⟩ = some (.int .i64 x.id) ∧ wx.cell? ⟨w.heap.size, 1, none⟩ = some (.int .i64 x.spec.nodes) ∧ wx.cell? ⟨w.heap.size, 2, none⟩ = some (.int .i64 x.spec.cores) ∧ wx.cell? ⟨w.heap.size, 3, none⟩ = some (.int .i64 x.spec.gpus) ∧ wx.cell? ⟨w.heap.size, 4, none⟩ = some (.string x.spec.tag) ∧ wx.cell? ⟨w.heap.size, 5, none⟩ = some (.bool x.spec.whole) ∧ wx.cell? ⟨w.heap.size, 6, none⟩ = some (.int .i64 x.spec.long) ∧ wx.cell? ⟨w.heap.size, 7, none⟩ = some (.int .i64 x.spec.prio)) := Lib.hid (fun wx hz' => by
    have hz := (bel_drew1 w6).trans (hz'.mono (bel_drew1 w6).size)
    exact ⟨keep_cell BW.out.lt BW.out.c0 hz, keep_cell BW.out.lt BW.out.c1 hz, keep_cell BW.out.lt BW.out.c2 hz, keep_cell BW.out.lt BW.out.c3 hz, keep_cell BW.out.lt BW.out.c4 hz, keep_cell BW.out.lt BW.out.c5 hz, keep_cell BW.out.lt BW.out.c6 hz, keep_cell BW.out.lt BW.out.c7 hz⟩)
  have HD0 := Lib.hid (bel_drew1 w6)
  have HG1 := Lib.hid (HG.out.next HD0.out)
  have S1 := Lib.hid (HKEEP.out _ (Below.refl _ _))
  go_region_held3 (fun w' => w'.cell? ⟨w.heap.size, 0, none⟩ = some (.int .i64 x.id) ∧ w'.cell? ⟨w.heap.size, 1, none⟩ = some (.int .i64 x.spec.nodes) ∧ w'.cell? ⟨w.heap.size, 2, none⟩ = some (.int .i64 x.spec.cores) ∧ w'.cell? ⟨w.heap.size, 3, none⟩ = some (.int .i64 x.spec.gpus) ∧ w'.cell? ⟨w.heap.size, 4, none⟩ = some (.string x.spec.tag) ∧ w'.cell? ⟨w.heap.size, 5, none⟩ = some (.bool x.spec.whole) ∧ w'.cell? ⟨w.heap.size, 6, none⟩ = some (.int .i64 x.spec.long) ∧ w'.cell? ⟨w.heap.size, 7, none⟩ = some (.int .i64 x.spec.prio))
    (first | with_reducible exact S1.out | with_reducible exact S3.out | with_reducible exact S4.out | fail)
    (first | (go_at_call 18; (with_reducible refine (HENDW.out _ HG1.out).mono ?_); rintro e w7 ⟨rfl, hb⟩; have HY := Lib.hid hb; have HY0 := Lib.hid (HD0.out.trans (hb.mono HD0.out.size)); have HBw := Lib.hid (HB.out.trans (HY0.out.mono HB.out.size)); have S3 := Lib.hid (HKEEP.out _ HY.out); have BRw := Lib.hid (BR.out.next HY0.out); have R8w := Lib.hid (HR8.out.next HY0.out); have p0 := BRw.out.c0; have p1 := BRw.out.c1; have p2 := BRw.out.c2; have p3 := BRw.out.c3; have y0 := BRw.out.frozen 0; have y1 := BRw.out.frozen 1; have y2 := BRw.out.frozen 2; have y3 := BRw.out.frozen 3; have B4 := Lib.hid (((BW.out.next HY0.out).four (g := w.heap.size + 1) (v0 := .int .i64 x.id) (v1 := .slice A8 m8 c8) (v2 := .int .i64 ft) (v3 := .int .i64 ee)) (Nat.ne_of_lt (Nat.lt_succ_self _))); have S4 := Lib.hid (And.intro B4.out.c0 (And.intro B4.out.c1 (And.intro B4.out.c2 (And.intro B4.out.c3 (And.intro B4.out.c4 (And.intro B4.out.c5 (And.intro B4.out.c6 B4.out.c7))))))); clear hb) | fail)
  go_wp2
  have b1 := BRw.out.storeP4 ⟨x.id, fl, ft, ee⟩ A8 m8 c8
  have r0 := b1.c0
  have r1 := b1.c1
  have r2 := b1.c2
  have r3 := b1.c3
  simp only at r0 r1 r2 r3
  refine bodyPost_ret (v := .tuple #[.agg #[.int .i64 x.id, .slice A8 m8 c8, .int .i64 ft, .int .i64 ee], .bool true]) (by simp [results, Tryz.results27, go_sem, r0, r1, r2, r3]) rfl ⟨⟨A8, m8, c8, rfl, HM8.out.symm, ?_, HN8.out.1, HN8.out.2⟩, below_store4 HBw.out (Nat.le_succ _)⟩
  exact (rin_four R8w.out HSZ.out).mono (by have := HSZ.out; omega)

end Go.Proofs.YtchogijdkagiiaaGreatDoor

namespace Go.Proofs.YtchogijdkagiiaaGreatDoor
open Go.RowKit

set_option maxRecDepth 100000 in
set_option maxHeartbeats 8000000 in
theorem pickP_yes (HS3 : SlotOk) (HD : HeldOk) (HSP : SpecOk) {A A2 A3 A4 : Option Addr} {n c n2 c2 n3 c3 n4 c4 : Nat} {g : Gr} {use : List Int} {l : Tb} {ws : List Wn} {t u p d : Int} {w : World} (hg : GAsk w A n c g) (hu : LAsk w A2 n2 c2 use) (hl : TAsk w A3 n3 c3 l) (hf : FewT l) (hw : WnAsk w A4 n4 c4 ws) (hn60 : n ≤ 60) (hn34 : n3 + n4 ≤ 60) (ht : I64 t) (hv : I64 u) (hG : Glob w) (hm : PickMay p d l) : Calls Tryz.prog 12 #[.slice A n c, .slice A2 n2 c2, .slice A3 n3 c3, .slice A4 n4 c4, .int .i64 t, .int .i64 u, .int .i64 p, .int .i64 d] w (PKPost (pickA g use l ws t u p d).1 (pickA g use l ws t u p d).2.1 (pickA g use l ws t u p d).2.2 w) := by
  obtain ⟨i0, hi0, hz0, hz1, hz2⟩ : ∃ i, Tryz.prog.info? 41 = some i ∧ i.zero = some (.agg #[.int .i64 0, .slice none 0 0, .int .i64 0, .int .i64 0]) ∧ i.size = 4 ∧ i.bytes = 48 := info_parts held_info
  have HT := Lib.hid ht
  have HV := Lib.hid hv
  have HG := Lib.hid hG
  have GA := Lib.hid hg
  have UA := Lib.hid hu
  have TA := Lib.hid hl
  have WA := Lib.hid hw
  have HF := Lib.hid hf
  have HWL := Lib.hid hw.len
  have HGL : Hid (g.length ≤ 60) := Lib.hid (by rw [hg.reads.1]; omega)
  have HTL := Lib.hid hl.reads.len
  have HB := Lib.hid (Below.refl w.heap.size w)
  have HRR := Lib.hid hm.2.2.2
  have HKP : Hid (KeepsP p d) := Lib.hid ⟨hm.1, hm.2.1, hm.2.2.1⟩
  obtain ⟨rm, hrm⟩ : ∃ x, roomP p d = x := ⟨_, rfl⟩
  have HFULL : Hid (∀ k : Tb, ¬ p = 1 → fullP p d k = decide ((k.length : Int) = rm)) := Lib.hid (fun k h => by rw [← hrm]; exact proom_full hm.1 h)
  have HRM := Lib.hid hrm
  obtain ⟨pa, hpa⟩ : ∃ x, (pickA g use l ws t u p d).1 = x := ⟨_, rfl⟩
  obtain ⟨pk, hpk⟩ : ∃ x, (pickA g use l ws t u p d).2.1 = x := ⟨_, rfl⟩
  obtain ⟨pe, hpe⟩ : ∃ x, (pickA g use l ws t u p d).2.2 = x := ⟨_, rfl⟩
  have HPT : Hid (∀ (a b : Tb) (er : Int), pickR g use t u p d l [] [] ws = (a, b, er) → pa = a ∧ pk = b ∧ pe = er) := Lib.hid (fun a b er h => by
    have e : pickA g use l ws t u p d = pickR g use t u p d l [] [] ws := if_pos hm
    rw [← hpa, ← hpk, ← hpe, e, h]
    exact ⟨rfl, rfl, rfl⟩)
  rw [hpa, hpk, hpe]
  clear ht hv hG hg hu hl hw hf hm hpa hpk hpe hrm
  go_enter Tryz.func12, Tryz.ntmps12
  go_wp2_with fail
  refine (pkeeps_yes HKP.out).mono ?_
  rintro e w0 ⟨rfl, hb⟩
  rw [HRM.out]
  replace HG := Lib.hid (HG.out.next hb)
  replace GA := Lib.hid (GA.out.next hb)
  replace UA := Lib.hid (UA.out.next hb)
  replace TA := Lib.hid (TA.out.next hb)
  replace WA := Lib.hid (WA.out.next hb)
  replace HB := Lib.hid (HB.out.trans (hb.mono HB.out.size))
  clear hb
  go_wp2_with fail
  refine (h10_right HD TA.out HF.out HRR.out).mono ?_
  rintro e w1 ⟨rfl, hb⟩
  replace HG := Lib.hid (HG.out.next hb)
  replace GA := Lib.hid (GA.out.next hb)
  replace UA := Lib.hid (UA.out.next hb)
  replace TA := Lib.hid (TA.out.next hb)
  replace WA := Lib.hid (WA.out.next hb)
  replace HB := Lib.hid (HB.out.trans (hb.mono HB.out.size))
  clear hb
  have HTB := Lib.hid (tabo_start TA.out)
  go_wp2
  go_loopw [45, 2, 21, 22] (fun iv lv xb xk wr => ∃ (k : Nat) (out b kp : Tb) (A5 : Option Addr) (n5 c5 : Nat) (bv kv : Value), bv = xb ∧ kv = xk ∧ lv = .slice A5 n5 c5 ∧ k ≤ n4 ∧ iv = .int .i64 k ∧ TabO wr bv kv A5 n5 c5 out ∧ (FewT out ∧ out.length ≤ n3 + k) ∧ TwoQ EH 4 41 w1 bv kv b kp wr ∧ b.length + kp.length ≤ k ∧ pickR g use t u p d l [] [] ws = pickR g use t u p d out b kp (ws.drop k)) (fun iv _ _ _ _ => n4 - (intOf iv).toNat)
  case atStart => exact ⟨0, l, [], [], A3, n3, c3, _, _, rfl, rfl, rfl, Nat.zero_le _, rfl, HTB.out, ⟨HF.out, by rw [HTL.out]; omega⟩, TwoQ.nil _, Nat.le_refl _, by simp⟩
  case round =>
    obtain ⟨k, out, b, kp, A5, n5, c5, bv, kv, rfl, rfl, hlv, hk, hiv, hto, hfo, htw, hlbk, hpl⟩ := hrel
    subst hlv hiv
    have TO := Lib.hid hto
    have HFO := Lib.hid hfo
    have TW := Lib.hid htw
    have HLBK := Lib.hid hlbk
    have HPL0 := Lib.hid hpl
    have hbel := htw.below
    have HG5 := Lib.hid (HG.out.next hbel)
    have GA5 := Lib.hid (GA.out.next hbel)
    have UA5 := Lib.hid (UA.out.next hbel)
    have WA5 := Lib.hid (WA.out.next hbel)
    clear hto hfo htw hlbk hpl hbel
    by_cases hlt : k < n4
    · have hkl0 : k < ws.length := by rw [HWL.out]; exact hlt
      have hdr := wn_drop hkl0
      obtain ⟨bw, offw, hA4, hbw, ⟨e0, e1, e2, e3, e4, e5, e6, e7⟩, hxs, hxi⟩ := WA5.out.one hlt
      subst hA4
      obtain ⟨x, hx⟩ : ∃ x, ws.getD k wn0 = x := ⟨_, rfl⟩
      rw [hx] at e0 e1 e2 e3 e4 e5 e6 e7 hxs hxi hdr
      have HXS := Lib.hid hxs
      have HXI := Lib.hid hxi
      rw [hdr] at HPL0
      have hba : Below wr.heap.size wr (wr.alloc (.cells #[.int .i64 x.id, .int .i64 x.spec.nodes, .int .i64 x.spec.cores, .int .i64 x.spec.gpus, .string x.spec.tag, .bool x.spec.whole, .int .i64 x.spec.long, .int .i64 x.spec.prio] 43)) := (Below.refl _ _).alloc (Nat.le_refl _) _
      have BW : Hid (BoxW (wr.alloc (.cells #[.int .i64 x.id, .int .i64 x.spec.nodes, .int .i64 x.spec.cores, .int .i64 x.spec.gpus, .string x.spec.tag, .bool x.spec.whole, .int .i64 x.spec.long, .int .i64 x.spec.prio] 43)) wr.heap.size x) := Lib.hid (boxW_new wr x)
      replace TO := Lib.hid (TO.out.next hba)
      replace HG5 := Lib.hid (HG5.out.next hba)
      replace GA5 := Lib.hid (GA5.out.next hba)
      replace UA5 := Lib.hid (UA5.out.next hba)
      replace TW := Lib.hid (TW.out.next eh_steady hba)
      clear hba hx hxs hxi hdr hkl0
      have HOW : Hid ((∀ b, bv.ownBlock = some b → b < (wr.alloc (.cells #[.int .i64 x.id, .int .i64 x.spec.nodes, .int .i64 x.spec.cores, .int .i64 x.spec.gpus, .string x.spec.tag, .bool x.spec.whole, .int .i64 x.spec.long, .int .i64 x.spec.prio] 43)).heap.size) ∧ (∀ b, kv.ownBlock = some b → b < (wr.alloc (.cells #[.int .i64 x.id, .int .i64 x.spec.nodes, .int .i64 x.spec.cores, .int .i64 x.spec.gpus, .string x.spec.tag, .bool x.spec.whole, .int .i64 x.spec.long, .int .i64 x.spec.prio] 43)).heap.size)) := Lib.hid ⟨fun b h => (TW.out.one.own b h).2, fun b h => (TW.out.two.own b h).2⟩
      cases hfb : firstBS g use out x.spec t u with
      | false =>
        have HN : Hid (pickR g use t u p d l [] [] ws = pickR g use t u p d out b kp (ws.drop (k + 1))) := Lib.hid (by rw [HPL0.out, pickR_pass hfb])
        have HFB := Lib.hid hfb
        clear hfb
        have q0 := BW.out.c0
        have q1 := BW.out.c1
        have q2 := BW.out.c2
        have q3 := BW.out.c3
        have q4 := BW.out.c4
        have q5 := BW.out.c5
        have q6 := BW.out.c6
        have q7 := BW.out.c7
        go_wp2_with fail
        refine (pfirst_no HS3 GA5.out UA5.out TO.out.ask HFO.out.1 HXS.out HT.out HV.out HG5.out HFB.out).mono ?_
        rintro e w6 ⟨rfl, hb⟩
        clear q0 q1 q2 q3 q4 q5 q6 q7
        replace TO := Lib.hid (TO.out.next hb)
        replace HG5 := Lib.hid (HG5.out.next hb)
        replace TW := Lib.hid (TW.out.next eh_steady hb)
        clear hb
        have hba : Below w6.heap.size w6 (w6.alloc (.cells #[.int .i64 0, .slice none 0 0, .int .i64 0, .int .i64 0] 41)) := (Below.refl _ _).alloc (Nat.le_refl _) _
        replace TO := Lib.hid (TO.out.next hba)
        replace HG5 := Lib.hid (HG5.out.next hba)
        replace TW := Lib.hid (TW.out.next eh_steady hba)
        clear hba
        go_wp2
        go_roundw
        case rel => exact ⟨k + 1, out, b, kp, A5, n5, c5, _, _, rfl, rfl, rfl, by omega, by go_num, TO.out, ⟨HFO.out.1, by have := HFO.out.2; omega⟩, TW.out, by have := HLBK.out; omega, HN.out⟩
        case measure => simp [intOf] <;> omega
      | true =>
        obtain ⟨ft, hft⟩ : ∃ y, firstAtS g use out x.spec t u = y := ⟨_, rfl⟩
        obtain ⟨fl, hfl⟩ : ∃ y, firstLS g use out x.spec t u = y := ⟨_, rfl⟩
        obtain ⟨ee, hee⟩ : ∃ y, endsS x.spec ft = y := ⟨_, rfl⟩
        have hhw : heldW g use out x t u = ⟨x.id, fl, ft, ee⟩ := by unfold heldW; rw [hft, hfl, hee]
        have HFI : Hid (I64 ft ∧ I64 ee ∧ (∀ q ∈ fl, I64 q)) := Lib.hid (by
          rw [← hft, ← hfl, ← hee, ← hft]; exact first_int hfb)
        have HFL8 : Hid (fl.length ≤ 60) := Lib.hid (by rw [← hfl]; exact Nat.le_trans (first_short hfb) HGL.out)
        have HC := Lib.hid (pfirst_yes HS3 HSP GA5.out UA5.out TO.out.ask HFO.out.1 HXS.out HT.out HV.out HG5.out hfb)
        rw [hhw] at HC
        by_cases hlat : t < firstAtS g use out x.spec t u
        · have dbt : (ft == t) = false := beq_false_of_ne (by rw [← hft]; omega)
          by_cases hp1 : p = 1
          · have HX : Hid (pa = b ∧ pk = kp ∧ pe = 0) := Lib.hid (HPT.out _ _ _ (HPL0.out.trans (pickR_stop hfb hlat hp1)))
            have dp1 : (p == 1) = true := by rw [hp1]; rfl
            clear hfb hlat hp1 hhw hft hfl hee
            have q0 := BW.out.c0
            have q1 := BW.out.c1
            have q2 := BW.out.c2
            have q3 := BW.out.c3
            have q4 := BW.out.c4
            have q5 := BW.out.c5
            have q6 := BW.out.c6
            have q7 := BW.out.c7
            go_wp2_with fail
            refine (HC.out).mono ?_
            rintro e w6 ⟨⟨A8, m8, c8, rfl, hm8, hr8, hn8, hc8⟩, hb⟩
            clear q0 q1 q2 q3 q4 q5 q6 q7
            have RN8 := Lib.hid hr8
            have HHF : Hid ((A8 = none → c8 = 0) ∧ m8 ≤ c8 ∧ m8 ≤ maxLen ∧ (I64 x.id ∧ I64 ft ∧ I64 ee ∧ ∀ q ∈ fl, I64 q)) := Lib.hid ⟨hn8, hc8, by rw [hm8]; exact Nat.le_trans HFL8.out (by decide), HXI.out, HFI.out.1, HFI.out.2.1, HFI.out.2.2⟩
            have HM60 : Hid (m8 ≤ 60) := Lib.hid (by rw [hm8]; exact HFL8.out)
            replace TO := Lib.hid (TO.out.next hb)
            replace HG5 := Lib.hid (HG5.out.next hb)
            replace TW := Lib.hid (TW.out.next eh_steady hb)
            clear hb hr8 hn8 hc8 hm8 HC
            have hba : Below w6.heap.size w6 (w6.alloc (.cells #[.int .i64 x.id, .slice A8 m8 c8, .int .i64 ft, .int .i64 ee] 41)) := (Below.refl _ _).alloc (Nat.le_refl _) _
            have HBX := Lib.hid (boxH_new w6 ⟨x.id, fl, ft, ee⟩ A8 m8 c8)
            replace RN8 := Lib.hid (RN8.out.next hba)
            have r0 := HBX.out.c0
            have r1 := HBX.out.c1
            have r2 := HBX.out.c2
            have r3 := HBX.out.c3
            simp only at r0 r1 r2 r3
            replace TO := Lib.hid (TO.out.next hba)
            replace HG5 := Lib.hid (HG5.out.next hba)
            replace TW := Lib.hid (TW.out.next eh_steady hba)
            clear hba
            have HO1 := Lib.hid (TW.out.on1 eh_steady)
            have HO2 := Lib.hid (TW.out.on2 eh_steady)
            obtain ⟨B1, d1, rfl, hB1, hB2⟩ := HO1.out.form
            obtain ⟨B2, d2, rfl, hB3, hB4⟩ := HO2.out.form
            have HR1 := Lib.hid (And.intro (HO1.out.reads eh_steady (by omega) rfl) (And.intro hB1 hB2))
            have HR2 := Lib.hid (And.intro (HO2.out.reads eh_steady (by omega) rfl) (And.intro hB3 hB4))
            have HBZ := Lib.hid (HB.out.trans (TW.out.below.mono HB.out.size))
            clear hB1 hB2 hB3 hB4
            go_wp2
            go_ret3
            rw [HX.out.1, HX.out.2.1, HX.out.2.2]
            exact ⟨⟨B1, d1, B2, d2, rfl, HR1.out, HR2.out⟩, HBZ.out⟩
          · have dp1 : (p == 1) = false := beq_false_of_ne hp1
            obtain ⟨AK, ck, hkv, hk1, hk2⟩ := (TW.out.on2 eh_steady).form
            subst hkv
            clear hk1 hk2
            by_cases hkl : (kp.length : Int) = rm
            · have hfull : fullP p d kp = true := by rw [HFULL.out kp hp1]; exact decide_eq_true hkl
              have HN : Hid (pickR g use t u p d l [] [] ws = pickR g use t u p d out b kp (ws.drop (k + 1))) := Lib.hid (by rw [HPL0.out, pickR_full hfb hlat hp1 hfull])
              have dkz : ((kp.length : Int) == rm) = true := by simp [hkl]
              clear hfb hlat hp1 hfull hkl hhw hft hfl hee
              have q0 := BW.out.c0
              have q1 := BW.out.c1
              have q2 := BW.out.c2
              have q3 := BW.out.c3
              have q4 := BW.out.c4
              have q5 := BW.out.c5
              have q6 := BW.out.c6
              have q7 := BW.out.c7
              go_wp2_with fail
              refine (HC.out).mono ?_
              rintro e w6 ⟨⟨A8, m8, c8, rfl, hm8, hr8, hn8, hc8⟩, hb⟩
              clear q0 q1 q2 q3 q4 q5 q6 q7
              have RN8 := Lib.hid hr8
              have HHF : Hid ((A8 = none → c8 = 0) ∧ m8 ≤ c8 ∧ m8 ≤ maxLen ∧ (I64 x.id ∧ I64 ft ∧ I64 ee ∧ ∀ q ∈ fl, I64 q)) := Lib.hid ⟨hn8, hc8, by rw [hm8]; exact Nat.le_trans HFL8.out (by decide), HXI.out, HFI.out.1, HFI.out.2.1, HFI.out.2.2⟩
              have HM60 : Hid (m8 ≤ 60) := Lib.hid (by rw [hm8]; exact HFL8.out)
              replace TO := Lib.hid (TO.out.next hb)
              replace HG5 := Lib.hid (HG5.out.next hb)
              replace TW := Lib.hid (TW.out.next eh_steady hb)
              clear hb hr8 hn8 hc8 hm8 HC
              have hba : Below w6.heap.size w6 (w6.alloc (.cells #[.int .i64 x.id, .slice A8 m8 c8, .int .i64 ft, .int .i64 ee] 41)) := (Below.refl _ _).alloc (Nat.le_refl _) _
              have HBX := Lib.hid (boxH_new w6 ⟨x.id, fl, ft, ee⟩ A8 m8 c8)
              replace RN8 := Lib.hid (RN8.out.next hba)
              have r0 := HBX.out.c0
              have r1 := HBX.out.c1
              have r2 := HBX.out.c2
              have r3 := HBX.out.c3
              simp only at r0 r1 r2 r3
              replace TO := Lib.hid (TO.out.next hba)
              replace HG5 := Lib.hid (HG5.out.next hba)
              replace TW := Lib.hid (TW.out.next eh_steady hba)
              clear hba
              go_wp2
              go_roundw
              case rel => exact ⟨k + 1, out, b, kp, A5, n5, c5, _, _, rfl, rfl, rfl, by omega, by go_num, TO.out, ⟨HFO.out.1, by have := HFO.out.2; omega⟩, TW.out, by have := HLBK.out; omega, HN.out⟩
              case measure => simp [intOf] <;> omega
            · have hfull : fullP p d kp = false := by rw [HFULL.out kp hp1]; exact decide_eq_false hkl
              have dkz : ((kp.length : Int) == rm) = false := by simp [hkl]
              clear hkl
              have HNF : Hid (addE out ⟨x.id, fl, ft, ee⟩ = 0 → FewT (addT out ⟨x.id, fl, ft, ee⟩) ∧ (addT out ⟨x.id, fl, ft, ee⟩).length = out.length + 1) := Lib.hid (fun h => addT_fewS HFO.out.1 h (Nat.le_trans HFL8.out (by decide)) (by have := HFO.out.2; omega))
              obtain ⟨nt, hnt⟩ : ∃ y, addT out ⟨x.id, fl, ft, ee⟩ = y := ⟨_, rfl⟩
              obtain ⟨er, her⟩ : ∃ y, addE out ⟨x.id, fl, ft, ee⟩ = y := ⟨_, rfl⟩
              rw [hnt, her] at HNF
              have HADDP : Hid (∀ (A8 : Option Addr) (m8 c8 : Nat) (W : World), m8 ≤ 60 → TAsk W A5 n5 c5 out → HAsk W A8 m8 c8 ⟨x.id, fl, ft, ee⟩ → er = 0 → Calls Tryz.prog 22 #[.slice A5 n5 c5, .agg #[.int .i64 x.id, .slice A8 m8 c8, .int .i64 ft, .int .i64 ee]] W (TPPost (fun b => W.heap.size ≤ b) nt W)) := Lib.hid (fun A8 m8 c8 W hm h1 h2 h5 => by
                have := HD.addN A5 n5 c5 out A8 m8 c8 ⟨x.id, fl, ft, ee⟩ W h1 HFO.out.1 h2 (Nat.le_trans hm (by decide)) (by rw [her]; exact h5)
                rw [hnt] at this
                exact this)
              have HADDE : Hid (∀ (A8 : Option Addr) (m8 c8 : Nat) (W : World), m8 ≤ 60 → TAsk W A5 n5 c5 out → HAsk W A8 m8 c8 ⟨x.id, fl, ft, ee⟩ → Calls Tryz.prog 22 #[.slice A5 n5 c5, .agg #[.int .i64 x.id, .slice A8 m8 c8, .int .i64 ft, .int .i64 ee]] W (TEPost nt er W)) := Lib.hid (fun A8 m8 c8 W hm h1 h2 => by
                have := HD.add A5 n5 c5 out A8 m8 c8 ⟨x.id, fl, ft, ee⟩ W h1 HFO.out.1 h2 (Nat.le_trans hm (by decide))
                rw [hnt, her] at this
                exact this)
              have HERR : Hid (er ≠ 0 → pickR g use t u p d l [] [] ws = ([], [], er)) := Lib.hid (fun h => by rw [HPL0.out, pickR_errK hfb hlat hp1 hfull (by rw [hhw, her]; exact h), hhw, her])
              have HADD2 : Hid (er = 0 → pickR g use t u p d l [] [] ws = pickR g use t u p d nt b (kp ++ [⟨x.id, fl, ft, ee⟩]) (ws.drop (k + 1))) := Lib.hid (fun h => by rw [HPL0.out, pickR_keep hfb hlat hp1 hfull (by rw [hhw, her]; exact h), hhw, hnt])
              clear hhw hnt her hfb hlat hfull hp1 hft hfl hee
              have q0 := BW.out.c0
              have q1 := BW.out.c1
              have q2 := BW.out.c2
              have q3 := BW.out.c3
              have q4 := BW.out.c4
              have q5 := BW.out.c5
              have q6 := BW.out.c6
              have q7 := BW.out.c7
              go_wp2_with fail
              refine (HC.out).mono ?_
              rintro e w6 ⟨⟨A8, m8, c8, rfl, hm8, hr8, hn8, hc8⟩, hb⟩
              clear q0 q1 q2 q3 q4 q5 q6 q7
              have RN8 := Lib.hid hr8
              have HHF : Hid ((A8 = none → c8 = 0) ∧ m8 ≤ c8 ∧ m8 ≤ maxLen ∧ (I64 x.id ∧ I64 ft ∧ I64 ee ∧ ∀ q ∈ fl, I64 q)) := Lib.hid ⟨hn8, hc8, by rw [hm8]; exact Nat.le_trans HFL8.out (by decide), HXI.out, HFI.out.1, HFI.out.2.1, HFI.out.2.2⟩
              have HM60 : Hid (m8 ≤ 60) := Lib.hid (by rw [hm8]; exact HFL8.out)
              replace TO := Lib.hid (TO.out.next hb)
              replace HG5 := Lib.hid (HG5.out.next hb)
              replace TW := Lib.hid (TW.out.next eh_steady hb)
              clear hb hr8 hn8 hc8 hm8 HC
              have hba : Below w6.heap.size w6 (w6.alloc (.cells #[.int .i64 x.id, .slice A8 m8 c8, .int .i64 ft, .int .i64 ee] 41)) := (Below.refl _ _).alloc (Nat.le_refl _) _
              have HBX := Lib.hid (boxH_new w6 ⟨x.id, fl, ft, ee⟩ A8 m8 c8)
              replace RN8 := Lib.hid (RN8.out.next hba)
              have r0 := HBX.out.c0
              have r1 := HBX.out.c1
              have r2 := HBX.out.c2
              have r3 := HBX.out.c3
              simp only at r0 r1 r2 r3
              replace TO := Lib.hid (TO.out.next hba)
              replace HG5 := Lib.hid (HG5.out.next hba)
              replace TW := Lib.hid (TW.out.next eh_steady hba)
              clear hba
              have HH8 : Hid (HAsk (w6.alloc (.cells #[.int .i64 x.id, .slice A8 m8 c8, .int .i64 ft, .int .i64 ee] 41)) A8 m8 c8 ⟨x.id, fl, ft, ee⟩) := Lib.hid ⟨RN8.out.ri, HHF.out.1, HHF.out.2.1, HHF.out.2.2.1, HHF.out.2.2.2⟩
              have HTA := Lib.hid TO.out.ask
              have HOWB : Hid ((∀ b, bv.ownBlock = some b → b < (w6.alloc (.cells #[.int .i64 x.id, .slice A8 m8 c8, .int .i64 ft, .int .i64 ee] 41)).heap.size) ∧ (∀ b, (Value.slice AK kp.length ck).ownBlock = some b → b < (w6.alloc (.cells #[.int .i64 x.id, .slice A8 m8 c8, .int .i64 ft, .int .i64 ee] 41)).heap.size)) := Lib.hid ⟨fun b h => (TW.out.one.own b h).2, fun b h => (TW.out.two.own b h).2⟩
              by_cases h0 : er = 0
              · have d0 : (er != 0) = false := by rw [h0]; rfl
                have d00 : ((0 : Int) != 0) = false := rfl
                have HNX := Lib.hid (HADD2.out h0)
                have HNL := Lib.hid (HNF.out h0)
                have HADDm := Lib.hid (HADDP.out A8 m8 c8 (w6.alloc (.cells #[.int .i64 x.id, .slice A8 m8 c8, .int .i64 ft, .int .i64 ee] 41)) HM60.out HTA.out HH8.out h0)
                clear h0
                go_wp2_with fail
                refine HADDm.out.mono ?_
                rintro e w9 ⟨v9, rfl, hon⟩
                have hb9 := hon.below
                obtain ⟨A9, c9, rfl, hto9⟩ := tabo_add (v1 := bv) (v2 := (Value.slice AK kp.length ck)) hon HOWB.out.1 HOWB.out.2 (fun b hb hp => off_new HOWB.out.1 HOWB.out.2 b hp hb) (by have := HNL.out.2; have := HFO.out.2; unfold maxLen; omega)
                have TO9 := Lib.hid hto9
                clear hon hto9 r0 r1 r2 r3
                replace HBX := Lib.hid (HBX.out.next hb9)
                replace RN8 := Lib.hid (RN8.out.next hb9)
                replace TW := Lib.hid (TW.out.next eh_steady hb9)
                clear hb9
                have r0 := HBX.out.c0
                have r1 := HBX.out.c1
                have r2 := HBX.out.c2
                have r3 := HBX.out.c3
                simp only at r0 r1 r2 r3
                have HEO : Hid (EH w9 (Off2 w9 bv (Value.slice AK kp.length ck)) ⟨x.id, fl, ft, ee⟩ [.int .i64 x.id, .slice A8 m8 c8, .int .i64 ft, .int .i64 ee]) := Lib.hid (el_off RN8.out HOW.out.1 HOW.out.2 HHF.out.1 HHF.out.2.1 HHF.out.2.2.1 HHF.out.2.2.2)
                have HSO : Hid (kp.length + 1 ≤ maxLen ∧ (kp.length + 1) * 48 ≤ 140737488355328) := Lib.hid (by have := HLBK.out; unfold maxLen; omega)
                go_wp2_with (at_builtin; refine wpList_append_two2 rfl (.tmp 94) (.tmp 96) 24 rfl eh_steady TW.out i0 (.agg #[.int .i64 0, .slice none 0 0, .int .i64 0, .int .i64 0]) 48 Tryz.underlying24 hi0 hz0 hz1 hz2 rfl (by decide) rfl ⟨x.id, fl, ft, ee⟩ #[.int .i64 x.id, .slice A8 m8 c8, .int .i64 ft, .int .i64 ee] rfl rfl (by intro q hq; simp at hq; rcases hq with rfl | rfl | rfl | rfl <;> rfl) HEO.out HSO.out.1 HSO.out.2 ?_; intro v' w10 hTW hbs; refine Hid.out ?_)
                refine Lib.hid ?_
                have TW10 := Lib.hid hTW
                have TO10 := Lib.hid (TO9.out.beside hbs)
                have HLB2 : Hid ((b.length + (kp ++ [(⟨x.id, fl, ft, ee⟩ : Hd)]).length) ≤ k + 1) := Lib.hid (by have := HLBK.out; rw [List.length_append, List.length_singleton]; omega)
                clear hTW hbs r0 r1 r2 r3
                go_wp2
                go_roundw
                case rel => exact ⟨k + 1, nt, b, (kp ++ [⟨x.id, fl, ft, ee⟩]), A9, nt.length, c9, _, _, rfl, rfl, rfl, by omega, by go_num, TO10.out, ⟨HNL.out.1, by have := HNL.out.2; have := HFO.out.2; omega⟩, TW10.out, HLB2.out, HNX.out⟩
                case measure => simp [intOf] <;> omega
              · have d0 : (er != 0) = true := bne_iff_ne.2 h0
                have HX := Lib.hid (HPT.out _ _ _ (HERR.out h0))
                clear h0
                go_wp2_with fail
                refine (HADDE.out A8 m8 c8 (w6.alloc (.cells #[.int .i64 x.id, .slice A8 m8 c8, .int .i64 ft, .int .i64 ee] 41)) HM60.out HTA.out HH8.out).mono ?_
                rintro e w9 ⟨⟨A9, c9, rfl, _, _, _⟩, hb9⟩
                have HBZ := Lib.hid (HB.out.trans ((TW.out.below.trans (hb9.mono TW.out.below.size)).mono HB.out.size))
                clear hb9 r0 r1 r2 r3
                go_wp2
                go_ret3
                rw [HX.out.1, HX.out.2.1, HX.out.2.2]
                exact ⟨⟨none, 0, none, 0, rfl, ⟨RT.nil, fun _ => rfl, Nat.le_refl _⟩, ⟨RT.nil, fun _ => rfl, Nat.le_refl _⟩⟩, HBZ.out⟩
        · have dbt : (ft == t) = true := beq_iff_eq.2 (by have := first_ge hfb; rw [← hft]; omega)
          have HNF : Hid (addE out ⟨x.id, fl, ft, ee⟩ = 0 → FewT (addT out ⟨x.id, fl, ft, ee⟩) ∧ (addT out ⟨x.id, fl, ft, ee⟩).length = out.length + 1) := Lib.hid (fun h => addT_fewS HFO.out.1 h (Nat.le_trans HFL8.out (by decide)) (by have := HFO.out.2; omega))
          obtain ⟨nt, hnt⟩ : ∃ y, addT out ⟨x.id, fl, ft, ee⟩ = y := ⟨_, rfl⟩
          obtain ⟨er, her⟩ : ∃ y, addE out ⟨x.id, fl, ft, ee⟩ = y := ⟨_, rfl⟩
          rw [hnt, her] at HNF
          have HADDP : Hid (∀ (A8 : Option Addr) (m8 c8 : Nat) (W : World), m8 ≤ 60 → TAsk W A5 n5 c5 out → HAsk W A8 m8 c8 ⟨x.id, fl, ft, ee⟩ → er = 0 → Calls Tryz.prog 22 #[.slice A5 n5 c5, .agg #[.int .i64 x.id, .slice A8 m8 c8, .int .i64 ft, .int .i64 ee]] W (TPPost (fun b => W.heap.size ≤ b) nt W)) := Lib.hid (fun A8 m8 c8 W hm h1 h2 h5 => by
            have := HD.addN A5 n5 c5 out A8 m8 c8 ⟨x.id, fl, ft, ee⟩ W h1 HFO.out.1 h2 (Nat.le_trans hm (by decide)) (by rw [her]; exact h5)
            rw [hnt] at this
            exact this)
          have HADDE : Hid (∀ (A8 : Option Addr) (m8 c8 : Nat) (W : World), m8 ≤ 60 → TAsk W A5 n5 c5 out → HAsk W A8 m8 c8 ⟨x.id, fl, ft, ee⟩ → Calls Tryz.prog 22 #[.slice A5 n5 c5, .agg #[.int .i64 x.id, .slice A8 m8 c8, .int .i64 ft, .int .i64 ee]] W (TEPost nt er W)) := Lib.hid (fun A8 m8 c8 W hm h1 h2 => by
            have := HD.add A5 n5 c5 out A8 m8 c8 ⟨x.id, fl, ft, ee⟩ W h1 HFO.out.1 h2 (Nat.le_trans hm (by decide))
            rw [hnt, her] at this
            exact this)
          have HERR : Hid (er ≠ 0 → pickR g use t u p d l [] [] ws = ([], [], er)) := Lib.hid (fun h => by rw [HPL0.out, pickR_errB hfb hlat (by rw [hhw, her]; exact h), hhw, her])
          have HADD2 : Hid (er = 0 → pickR g use t u p d l [] [] ws = pickR g use t u p d nt (b ++ [⟨x.id, fl, ft, ee⟩]) kp (ws.drop (k + 1))) := Lib.hid (fun h => by rw [HPL0.out, pickR_beg hfb hlat (by rw [hhw, her]; exact h), hhw, hnt])
          clear hhw hnt her hfb hlat hft hfl hee
          have q0 := BW.out.c0
          have q1 := BW.out.c1
          have q2 := BW.out.c2
          have q3 := BW.out.c3
          have q4 := BW.out.c4
          have q5 := BW.out.c5
          have q6 := BW.out.c6
          have q7 := BW.out.c7
          go_wp2_with fail
          refine (HC.out).mono ?_
          rintro e w6 ⟨⟨A8, m8, c8, rfl, hm8, hr8, hn8, hc8⟩, hb⟩
          clear q0 q1 q2 q3 q4 q5 q6 q7
          have RN8 := Lib.hid hr8
          have HHF : Hid ((A8 = none → c8 = 0) ∧ m8 ≤ c8 ∧ m8 ≤ maxLen ∧ (I64 x.id ∧ I64 ft ∧ I64 ee ∧ ∀ q ∈ fl, I64 q)) := Lib.hid ⟨hn8, hc8, by rw [hm8]; exact Nat.le_trans HFL8.out (by decide), HXI.out, HFI.out.1, HFI.out.2.1, HFI.out.2.2⟩
          have HM60 : Hid (m8 ≤ 60) := Lib.hid (by rw [hm8]; exact HFL8.out)
          replace TO := Lib.hid (TO.out.next hb)
          replace HG5 := Lib.hid (HG5.out.next hb)
          replace TW := Lib.hid (TW.out.next eh_steady hb)
          clear hb hr8 hn8 hc8 hm8 HC
          have hba : Below w6.heap.size w6 (w6.alloc (.cells #[.int .i64 x.id, .slice A8 m8 c8, .int .i64 ft, .int .i64 ee] 41)) := (Below.refl _ _).alloc (Nat.le_refl _) _
          have HBX := Lib.hid (boxH_new w6 ⟨x.id, fl, ft, ee⟩ A8 m8 c8)
          replace RN8 := Lib.hid (RN8.out.next hba)
          have r0 := HBX.out.c0
          have r1 := HBX.out.c1
          have r2 := HBX.out.c2
          have r3 := HBX.out.c3
          simp only at r0 r1 r2 r3
          replace TO := Lib.hid (TO.out.next hba)
          replace HG5 := Lib.hid (HG5.out.next hba)
          replace TW := Lib.hid (TW.out.next eh_steady hba)
          clear hba
          have HH8 : Hid (HAsk (w6.alloc (.cells #[.int .i64 x.id, .slice A8 m8 c8, .int .i64 ft, .int .i64 ee] 41)) A8 m8 c8 ⟨x.id, fl, ft, ee⟩) := Lib.hid ⟨RN8.out.ri, HHF.out.1, HHF.out.2.1, HHF.out.2.2.1, HHF.out.2.2.2⟩
          have HTA := Lib.hid TO.out.ask
          have HOWB : Hid ((∀ b, bv.ownBlock = some b → b < (w6.alloc (.cells #[.int .i64 x.id, .slice A8 m8 c8, .int .i64 ft, .int .i64 ee] 41)).heap.size) ∧ (∀ b, kv.ownBlock = some b → b < (w6.alloc (.cells #[.int .i64 x.id, .slice A8 m8 c8, .int .i64 ft, .int .i64 ee] 41)).heap.size)) := Lib.hid ⟨fun b h => (TW.out.one.own b h).2, fun b h => (TW.out.two.own b h).2⟩
          by_cases h0 : er = 0
          · have d0 : (er != 0) = false := by rw [h0]; rfl
            have d00 : ((0 : Int) != 0) = false := rfl
            have HNX := Lib.hid (HADD2.out h0)
            have HNL := Lib.hid (HNF.out h0)
            have HADDm := Lib.hid (HADDP.out A8 m8 c8 (w6.alloc (.cells #[.int .i64 x.id, .slice A8 m8 c8, .int .i64 ft, .int .i64 ee] 41)) HM60.out HTA.out HH8.out h0)
            clear h0
            go_wp2_with fail
            refine HADDm.out.mono ?_
            rintro e w9 ⟨v9, rfl, hon⟩
            have hb9 := hon.below
            obtain ⟨A9, c9, rfl, hto9⟩ := tabo_add (v1 := bv) (v2 := kv) hon HOWB.out.1 HOWB.out.2 (fun b hb hp => off_new HOWB.out.1 HOWB.out.2 b hp hb) (by have := HNL.out.2; have := HFO.out.2; unfold maxLen; omega)
            have TO9 := Lib.hid hto9
            clear hon hto9 r0 r1 r2 r3
            replace HBX := Lib.hid (HBX.out.next hb9)
            replace RN8 := Lib.hid (RN8.out.next hb9)
            replace TW := Lib.hid (TW.out.next eh_steady hb9)
            clear hb9
            have r0 := HBX.out.c0
            have r1 := HBX.out.c1
            have r2 := HBX.out.c2
            have r3 := HBX.out.c3
            simp only at r0 r1 r2 r3
            have HEO : Hid (EH w9 (Off2 w9 bv kv) ⟨x.id, fl, ft, ee⟩ [.int .i64 x.id, .slice A8 m8 c8, .int .i64 ft, .int .i64 ee]) := Lib.hid (el_off RN8.out HOW.out.1 HOW.out.2 HHF.out.1 HHF.out.2.1 HHF.out.2.2.1 HHF.out.2.2.2)
            have HSO : Hid (b.length + 1 ≤ maxLen ∧ (b.length + 1) * 48 ≤ 140737488355328) := Lib.hid (by have := HLBK.out; unfold maxLen; omega)
            go_wp2_with (at_builtin; refine wpList_append_two1 rfl (.tmp 90) (.tmp 92) 24 rfl eh_steady TW.out i0 (.agg #[.int .i64 0, .slice none 0 0, .int .i64 0, .int .i64 0]) 48 Tryz.underlying24 hi0 hz0 hz1 hz2 rfl (by decide) rfl ⟨x.id, fl, ft, ee⟩ #[.int .i64 x.id, .slice A8 m8 c8, .int .i64 ft, .int .i64 ee] rfl rfl (by intro q hq; simp at hq; rcases hq with rfl | rfl | rfl | rfl <;> rfl) HEO.out HSO.out.1 HSO.out.2 ?_; intro v' w10 hTW hbs; refine Hid.out ?_)
            refine Lib.hid ?_
            have TW10 := Lib.hid hTW
            have TO10 := Lib.hid (TO9.out.beside hbs)
            have HLB2 : Hid (((b ++ [(⟨x.id, fl, ft, ee⟩ : Hd)]).length + kp.length) ≤ k + 1) := Lib.hid (by have := HLBK.out; rw [List.length_append, List.length_singleton]; omega)
            clear hTW hbs r0 r1 r2 r3
            go_wp2
            go_roundw
            case rel => exact ⟨k + 1, nt, (b ++ [⟨x.id, fl, ft, ee⟩]), kp, A9, nt.length, c9, _, _, rfl, rfl, rfl, by omega, by go_num, TO10.out, ⟨HNL.out.1, by have := HNL.out.2; have := HFO.out.2; omega⟩, TW10.out, HLB2.out, HNX.out⟩
            case measure => simp [intOf] <;> omega
          · have d0 : (er != 0) = true := bne_iff_ne.2 h0
            have HX := Lib.hid (HPT.out _ _ _ (HERR.out h0))
            clear h0
            go_wp2_with fail
            refine (HADDE.out A8 m8 c8 (w6.alloc (.cells #[.int .i64 x.id, .slice A8 m8 c8, .int .i64 ft, .int .i64 ee] 41)) HM60.out HTA.out HH8.out).mono ?_
            rintro e w9 ⟨⟨A9, c9, rfl, _, _, _⟩, hb9⟩
            have HBZ := Lib.hid (HB.out.trans ((TW.out.below.trans (hb9.mono TW.out.below.size)).mono HB.out.size))
            clear hb9 r0 r1 r2 r3
            go_wp2
            go_ret3
            rw [HX.out.1, HX.out.2.1, HX.out.2.2]
            exact ⟨⟨none, 0, none, 0, rfl, ⟨RT.nil, fun _ => rfl, Nat.le_refl _⟩, ⟨RT.nil, fun _ => rfl, Nat.le_refl _⟩⟩, HBZ.out⟩
    · have HX : Hid (pa = b ∧ pk = kp ∧ pe = 0) := Lib.hid (by
        have h1 := HPL0.out
        rw [List.drop_of_length_le (by rw [HWL.out]; omega)] at h1
        exact HPT.out b kp 0 (by rw [h1, pickR]))
      have HO1 := Lib.hid (TW.out.on1 eh_steady)
      have HO2 := Lib.hid (TW.out.on2 eh_steady)
      obtain ⟨B1, d1, rfl, hB1, hB2⟩ := HO1.out.form
      obtain ⟨B2, d2, rfl, hB3, hB4⟩ := HO2.out.form
      have HR1 := Lib.hid (And.intro (HO1.out.reads eh_steady (by omega) rfl) (And.intro hB1 hB2))
      have HR2 := Lib.hid (And.intro (HO2.out.reads eh_steady (by omega) rfl) (And.intro hB3 hB4))
      have HBZ := Lib.hid (HB.out.trans (TW.out.below.mono HB.out.size))
      clear hB1 hB2 hB3 hB4
      go_wp2
      go_ret3
      rw [HX.out.1, HX.out.2.1, HX.out.2.2]
      exact ⟨⟨B1, d1, B2, d2, rfl, HR1.out, HR2.out⟩, HBZ.out⟩

end Go.Proofs.YtchogijdkagiiaaGreatDoor

namespace Go.Proofs.YtchogijdkagiiaaGreatDoor
open Go.RowKit

set_option maxRecDepth 100000 in
set_option maxHeartbeats 8000000 in
theorem pickP_no (HD : HeldOk) {A A2 A3 A4 : Option Addr} {n c n2 c2 n3 c3 n4 c4 : Nat} {l : Tb} {t u p d : Int} {w : World} (hl : TAsk w A3 n3 c3 l) (hf : FewT l) (hm : ¬ PickMay p d l) : Calls Tryz.prog 12 #[.slice A n c, .slice A2 n2 c2, .slice A3 n3 c3, .slice A4 n4 c4, .int .i64 t, .int .i64 u, .int .i64 p, .int .i64 d] w (PKPost [] [] 1 w) := by
  have TA := Lib.hid hl
  have HF := Lib.hid hf
  by_cases hk : KeepsP p d
  · have HRR : Hid (rightT l = false) := Lib.hid (by
      cases hr : rightT l with
      | false => rfl
      | true => exact absurd ⟨hk.1, hk.2.1, hk.2.2, hr⟩ hm)
    have HKP := Lib.hid hk
    obtain ⟨rm, hrm⟩ : ∃ x, roomP p d = x := ⟨_, rfl⟩
    have HRM := Lib.hid hrm
    clear hl hf hm hk hrm
    go_enter Tryz.func12, Tryz.ntmps12
    go_wp2_with fail
    refine (pkeeps_yes HKP.out).mono ?_
    rintro e w0 ⟨rfl, hb⟩
    rw [HRM.out]
    have HB := Lib.hid hb
    replace TA := Lib.hid (TA.out.next hb)
    clear hb
    go_wp2_with fail
    refine (h10_right HD TA.out HF.out HRR.out).mono ?_
    rintro e w1 ⟨rfl, hb⟩
    have HBZ := Lib.hid (HB.out.trans (hb.mono HB.out.size))
    clear hb
    go_wp2
    go_ret3
    exact ⟨⟨none, 0, none, 0, rfl, ⟨RT.nil, fun _ => rfl, Nat.le_refl _⟩, ⟨RT.nil, fun _ => rfl, Nat.le_refl _⟩⟩, HBZ.out⟩
  · have HKP := Lib.hid hk
    clear hl hf hm hk
    go_enter Tryz.func12, Tryz.ntmps12
    go_wp2_with fail
    refine (pkeeps_no HKP.out).mono ?_
    rintro e w0 ⟨rfl, hb⟩
    have HBZ := Lib.hid hb
    clear hb
    go_wp2
    go_ret3
    exact ⟨⟨none, 0, none, 0, rfl, ⟨RT.nil, fun _ => rfl, Nat.le_refl _⟩, ⟨RT.nil, fun _ => rfl, Nat.le_refl _⟩⟩, HBZ.out⟩
theorem pickP_any (HS3 : SlotOk) (HD : HeldOk) (HSP : SpecOk) {A A2 A3 A4 : Option Addr} {n c n2 c2 n3 c3 n4 c4 : Nat} {g : Gr} {use : List Int} {l : Tb} {ws : List Wn} {t u p d : Int} {w : World} (hg : GAsk w A n c g) (hu : LAsk w A2 n2 c2 use) (hl : TAsk w A3 n3 c3 l) (hf : FewT l) (hw : WnAsk w A4 n4 c4 ws) (hn60 : n ≤ 60) (hn34 : n3 + n4 ≤ 60) (ht : I64 t) (hv : I64 u) (hG : Glob w) : Calls Tryz.prog 12 #[.slice A n c, .slice A2 n2 c2, .slice A3 n3 c3, .slice A4 n4 c4, .int .i64 t, .int .i64 u, .int .i64 p, .int .i64 d] w (PKPost (pickA g use l ws t u p d).1 (pickA g use l ws t u p d).2.1 (pickA g use l ws t u p d).2.2 w) := by
  by_cases hm : PickMay p d l
  · exact pickP_yes HS3 HD HSP hg hu hl hf hw hn60 hn34 ht hv hG hm
  · have e : pickA g use l ws t u p d = ([], [], 1) := if_neg hm
    rw [e]
    exact pickP_no HD hl hf hm
set_option maxRecDepth 100000 in
set_option maxHeartbeats 8000000 in
theorem pickPLater_any (HS3 : SlotOk) {A A2 A3 A4 : Option Addr} {n c n2 c2 n3 c3 n4 c4 : Nat} {g : Gr} {use : List Int} {l l2 : Tb} {s : Sp} {t u : Int} {w : World} (hg : GAsk w A n c g) (hu : LAsk w A2 n2 c2 use) (hl : TAsk w A3 n3 c3 l) (hf : FewT l) (hl2 : TAsk w A4 n4 c4 l2) (hf2 : FewT l2) (hs : SAsk s) (ht : I64 t) (hv : I64 u) (hG : Glob w) : Calls Tryz.prog 15 #[.slice A n c, .slice A2 n2 c2, .slice A3 n3 c3, .slice A4 n4 c4, .agg #[.int .i64 s.nodes, .int .i64 s.cores, .int .i64 s.gpus, .string s.tag, .bool s.whole, .int .i64 s.long, .int .i64 s.prio], .int .i64 t, .int .i64 u] w fun e w' => e = .returned (.bool (laterA g use l l2 s t u)) ∧ Below w.heap.size w w' := by
  have hba : Below w.heap.size w (w.alloc (.cells #[.int .i64 s.nodes, .int .i64 s.cores, .int .i64 s.gpus, .string s.tag, .bool s.whole, .int .i64 s.long, .int .i64 s.prio] 27)) := (Below.refl _ _).alloc (Nat.le_refl _) _
  have HB := Lib.hid hba
  have HG := Lib.hid (hG.next hba)
  have GA := Lib.hid (hg.next hba)
  have UA := Lib.hid (hu.next hba)
  have TA := Lib.hid (hl.next hba)
  have TB := Lib.hid (hl2.next hba)
  have BS : Hid (BoxS (w.alloc (.cells #[.int .i64 s.nodes, .int .i64 s.cores, .int .i64 s.gpus, .string s.tag, .bool s.whole, .int .i64 s.long, .int .i64 s.prio] 27)) w.heap.size s) := Lib.hid (box_new w s)
  have HF := Lib.hid hf
  have HF2 := Lib.hid hf2
  have HS := Lib.hid hs
  have HT := Lib.hid ht
  have HV := Lib.hid hv
  obtain ⟨x1, k1⟩ : ∃ r, firstAtS g use l s t u = r := ⟨_, rfl⟩
  obtain ⟨b1, k3⟩ : ∃ b, firstBS g use l s t u = b := ⟨_, rfl⟩
  obtain ⟨x2, k4⟩ : ∃ r, firstAtS g use l2 s t u = r := ⟨_, rfl⟩
  obtain ⟨b2, k6⟩ : ∃ b, firstBS g use l2 s t u = b := ⟨_, rfl⟩
  have hla : laterA g use l l2 s t u = (b1 && (!b2 || decide (x1 < x2))) := by unfold laterA; rw [k1, k3, k4, k6]
  rw [hla]
  have K1 := Lib.hid k1
  have K3 := Lib.hid k3
  have K4 := Lib.hid k4
  have K6 := Lib.hid k6
  clear hba hG hg hu hl hl2 hs ht hv k1 k3 k4 k6 hla hf hf2
  cases b1 with
  | false =>
    go_enter Tryz.func15, Tryz.ntmps15
    have q0 := BS.out.c0
    have q1 := BS.out.c1
    have q2 := BS.out.c2
    have q3 := BS.out.c3
    have q4 := BS.out.c4
    have q5 := BS.out.c5
    have q6 := BS.out.c6
    go_wp2_with fail
    refine (s13_first HS3 GA.out UA.out TA.out HF.out HS.out HT.out HV.out HG.out K1.out rfl K3.out).mono ?_
    rintro e w1 ⟨⟨A31, c31, rfl, hr3, hn3, hc3⟩, hb⟩
    replace HB := Lib.hid (HB.out.trans (hb.mono HB.out.size))
    replace HG := Lib.hid (HG.out.next hb)
    replace GA := Lib.hid (GA.out.next hb)
    replace UA := Lib.hid (UA.out.next hb)
    replace TA := Lib.hid (TA.out.next hb)
    replace TB := Lib.hid (TB.out.next hb)
    replace BS := Lib.hid (BS.out.next hb)
    clear hb
    clear hr3 hn3 hc3
    clear q0 q1 q2 q3 q4 q5 q6

    go_wp2
    go_ret
    exact ⟨rfl, HB.out⟩
  | true =>
    cases b2 with
    | false =>
      go_enter Tryz.func15, Tryz.ntmps15
      have q0 := BS.out.c0
      have q1 := BS.out.c1
      have q2 := BS.out.c2
      have q3 := BS.out.c3
      have q4 := BS.out.c4
      have q5 := BS.out.c5
      have q6 := BS.out.c6
      go_wp2_with fail
      refine (s13_first HS3 GA.out UA.out TA.out HF.out HS.out HT.out HV.out HG.out K1.out rfl K3.out).mono ?_
      rintro e w1 ⟨⟨A31, c31, rfl, hr3, hn3, hc3⟩, hb⟩
      replace HB := Lib.hid (HB.out.trans (hb.mono HB.out.size))
      replace HG := Lib.hid (HG.out.next hb)
      replace GA := Lib.hid (GA.out.next hb)
      replace UA := Lib.hid (UA.out.next hb)
      replace TA := Lib.hid (TA.out.next hb)
      replace TB := Lib.hid (TB.out.next hb)
      replace BS := Lib.hid (BS.out.next hb)
      clear hb
      clear hr3 hn3 hc3
      clear q0 q1 q2 q3 q4 q5 q6

      have q0 := BS.out.c0
      have q1 := BS.out.c1
      have q2 := BS.out.c2
      have q3 := BS.out.c3
      have q4 := BS.out.c4
      have q5 := BS.out.c5
      have q6 := BS.out.c6
      go_wp2_with fail
      refine (s13_first HS3 GA.out UA.out TB.out HF2.out HS.out HT.out HV.out HG.out K4.out rfl K6.out).mono ?_
      rintro e w2 ⟨⟨A41, c41, rfl, hr4, hn4, hc4⟩, hb⟩
      replace HB := Lib.hid (HB.out.trans (hb.mono HB.out.size))
      replace HG := Lib.hid (HG.out.next hb)
      replace GA := Lib.hid (GA.out.next hb)
      replace UA := Lib.hid (UA.out.next hb)
      replace TA := Lib.hid (TA.out.next hb)
      replace TB := Lib.hid (TB.out.next hb)
      replace BS := Lib.hid (BS.out.next hb)
      clear hb
      clear hr4 hn4 hc4
      clear q0 q1 q2 q3 q4 q5 q6

      go_wp2
      go_ret
      exact ⟨rfl, HB.out⟩
    | true =>
      cases hd : decide (x1 < x2) with
      | true =>
        have hd' := of_decide_eq_true hd
        go_enter Tryz.func15, Tryz.ntmps15
        have q0 := BS.out.c0
        have q1 := BS.out.c1
        have q2 := BS.out.c2
        have q3 := BS.out.c3
        have q4 := BS.out.c4
        have q5 := BS.out.c5
        have q6 := BS.out.c6
        go_wp2_with fail
        refine (s13_first HS3 GA.out UA.out TA.out HF.out HS.out HT.out HV.out HG.out K1.out rfl K3.out).mono ?_
        rintro e w1 ⟨⟨A31, c31, rfl, hr3, hn3, hc3⟩, hb⟩
        replace HB := Lib.hid (HB.out.trans (hb.mono HB.out.size))
        replace HG := Lib.hid (HG.out.next hb)
        replace GA := Lib.hid (GA.out.next hb)
        replace UA := Lib.hid (UA.out.next hb)
        replace TA := Lib.hid (TA.out.next hb)
        replace TB := Lib.hid (TB.out.next hb)
        replace BS := Lib.hid (BS.out.next hb)
        clear hb
        clear hr3 hn3 hc3
        clear q0 q1 q2 q3 q4 q5 q6

        have q0 := BS.out.c0
        have q1 := BS.out.c1
        have q2 := BS.out.c2
        have q3 := BS.out.c3
        have q4 := BS.out.c4
        have q5 := BS.out.c5
        have q6 := BS.out.c6
        go_wp2_with fail
        refine (s13_first HS3 GA.out UA.out TB.out HF2.out HS.out HT.out HV.out HG.out K4.out rfl K6.out).mono ?_
        rintro e w2 ⟨⟨A41, c41, rfl, hr4, hn4, hc4⟩, hb⟩
        replace HB := Lib.hid (HB.out.trans (hb.mono HB.out.size))
        replace HG := Lib.hid (HG.out.next hb)
        replace GA := Lib.hid (GA.out.next hb)
        replace UA := Lib.hid (UA.out.next hb)
        replace TA := Lib.hid (TA.out.next hb)
        replace TB := Lib.hid (TB.out.next hb)
        replace BS := Lib.hid (BS.out.next hb)
        clear hb
        clear hr4 hn4 hc4
        clear q0 q1 q2 q3 q4 q5 q6

        go_wp2
        go_ret
        exact ⟨rfl, HB.out⟩
      | false =>
        have hd' := of_decide_eq_false hd
        go_enter Tryz.func15, Tryz.ntmps15
        have q0 := BS.out.c0
        have q1 := BS.out.c1
        have q2 := BS.out.c2
        have q3 := BS.out.c3
        have q4 := BS.out.c4
        have q5 := BS.out.c5
        have q6 := BS.out.c6
        go_wp2_with fail
        refine (s13_first HS3 GA.out UA.out TA.out HF.out HS.out HT.out HV.out HG.out K1.out rfl K3.out).mono ?_
        rintro e w1 ⟨⟨A31, c31, rfl, hr3, hn3, hc3⟩, hb⟩
        replace HB := Lib.hid (HB.out.trans (hb.mono HB.out.size))
        replace HG := Lib.hid (HG.out.next hb)
        replace GA := Lib.hid (GA.out.next hb)
        replace UA := Lib.hid (UA.out.next hb)
        replace TA := Lib.hid (TA.out.next hb)
        replace TB := Lib.hid (TB.out.next hb)
        replace BS := Lib.hid (BS.out.next hb)
        clear hb
        clear hr3 hn3 hc3
        clear q0 q1 q2 q3 q4 q5 q6

        have q0 := BS.out.c0
        have q1 := BS.out.c1
        have q2 := BS.out.c2
        have q3 := BS.out.c3
        have q4 := BS.out.c4
        have q5 := BS.out.c5
        have q6 := BS.out.c6
        go_wp2_with fail
        refine (s13_first HS3 GA.out UA.out TB.out HF2.out HS.out HT.out HV.out HG.out K4.out rfl K6.out).mono ?_
        rintro e w2 ⟨⟨A41, c41, rfl, hr4, hn4, hc4⟩, hb⟩
        replace HB := Lib.hid (HB.out.trans (hb.mono HB.out.size))
        replace HG := Lib.hid (HG.out.next hb)
        replace GA := Lib.hid (GA.out.next hb)
        replace UA := Lib.hid (UA.out.next hb)
        replace TA := Lib.hid (TA.out.next hb)
        replace TB := Lib.hid (TB.out.next hb)
        replace BS := Lib.hid (BS.out.next hb)
        clear hb
        clear hr4 hn4 hc4
        clear q0 q1 q2 q3 q4 q5 q6

        go_wp2
        go_ret
        exact ⟨rfl, HB.out⟩

end Go.Proofs.YtchogijdkagiiaaGreatDoor

namespace Go.Proofs.YtchogijdkagiiaaGreatDoor
open Go.RowKit

theorem less_i64 {a b : List Int} : ∀ x ∈ lessL a b, I64 x := fun x hx => by
  have := right_mem (right_lessL a b) x hx
  unfold I64; omega
set_option maxRecDepth 100000 in
set_option maxHeartbeats 8000000 in
theorem slotAt_1 (HSP : SpecOk) {A A2 A3 : Option Addr} {n c n2 c2 n3 c3 : Nat} {g : Gr} {use : List Int} {l : Tb} {s : Sp} {t u : Int} {w : World} (hg : GAsk w A n c g) (hu : LAsk w A2 n2 c2 use) (hl : TAsk w A3 n3 c3 l) (hf : FewT l) (hs : SAsk s) (ht : I64 t) (hv : I64 u) (hG : Glob w) (h0 : ¬ (0 ≤ t ∧ t ≤ 4611686018427387904)) : Calls Tryz.prog 46 #[.slice A n c, .slice A2 n2 c2, .slice A3 n3 c3, .agg #[.int .i64 s.nodes, .int .i64 s.cores, .int .i64 s.gpus, .string s.tag, .bool s.whole, .int .i64 s.long, .int .i64 s.prio], .int .i64 t, .int .i64 u] w (FPostN [] false w) := by
  have hba : Below w.heap.size w (w.alloc (.cells #[.int .i64 s.nodes, .int .i64 s.cores, .int .i64 s.gpus, .string s.tag, .bool s.whole, .int .i64 s.long, .int .i64 s.prio] 27)) := (Below.refl _ _).alloc (Nat.le_refl _) _
  have HB := Lib.hid hba
  have HG := Lib.hid (hG.next hba)
  have GA := Lib.hid (hg.next hba)
  have UA := Lib.hid (hu.next hba)
  have TA := Lib.hid (hl.next hba)
  have BS : Hid (BoxS (w.alloc (.cells #[.int .i64 s.nodes, .int .i64 s.cores, .int .i64 s.gpus, .string s.tag, .bool s.whole, .int .i64 s.long, .int .i64 s.prio] 27)) w.heap.size s) := Lib.hid (box_new w s)
  have HF := Lib.hid hf
  have HS := Lib.hid hs
  have HT := Lib.hid ht
  obtain ⟨e, he⟩ : ∃ e, endsS s t = e := ⟨_, rfl⟩
  have HE := Lib.hid he
  have HTB : Hid (timeB t = false) := Lib.hid (by unfold timeB; exact decide_eq_false h0)
  clear h0
  have _u := hv
  clear _u hba hG hg hu hl hf hs ht hv he
  go_enter Tryz.func46, Tryz.ntmps46
  have q0 := BS.out.c0
  have q1 := BS.out.c1
  have q2 := BS.out.c2
  have q3 := BS.out.c3
  have q4 := BS.out.c4
  have q5 := BS.out.c5
  have q6 := BS.out.c6
  go_wp2_with fail
  refine (s7_ends HSP HS.out HG.out HT.out HE.out).mono ?_
  rintro e w1 ⟨rfl, hb⟩
  replace HB := Lib.hid (HB.out.trans (hb.mono HB.out.size))
  replace HG := Lib.hid (HG.out.next hb)
  replace GA := Lib.hid (GA.out.next hb)
  replace UA := Lib.hid (UA.out.next hb)
  replace TA := Lib.hid (TA.out.next hb)
  replace BS := Lib.hid (BS.out.next hb)
  clear hb
  clear q0 q1 q2 q3 q4 q5 q6
  go_wp2_with fail
  refine (time_b HTB.out).mono ?_
  rintro e w2 ⟨rfl, hb⟩
  replace HB := Lib.hid (HB.out.trans (hb.mono HB.out.size))
  replace HG := Lib.hid (HG.out.next hb)
  replace GA := Lib.hid (GA.out.next hb)
  replace UA := Lib.hid (UA.out.next hb)
  replace TA := Lib.hid (TA.out.next hb)
  replace BS := Lib.hid (BS.out.next hb)
  clear hb
  go_wp2
  go_ret2
  exact ⟨⟨none, 0, rfl, RIN.nil, fun _ => rfl, Nat.le_refl _⟩, HB.out⟩
set_option maxRecDepth 100000 in
set_option maxHeartbeats 8000000 in
theorem slotAt_2 (HSP : SpecOk) {A A2 A3 : Option Addr} {n c n2 c2 n3 c3 : Nat} {g : Gr} {use : List Int} {l : Tb} {s : Sp} {t u : Int} {w : World} (hg : GAsk w A n c g) (hu : LAsk w A2 n2 c2 use) (hl : TAsk w A3 n3 c3 l) (hf : FewT l) (hs : SAsk s) (ht : I64 t) (hv : I64 u) (hG : Glob w) (h0 : t = 4611686018427387904) : Calls Tryz.prog 46 #[.slice A n c, .slice A2 n2 c2, .slice A3 n3 c3, .agg #[.int .i64 s.nodes, .int .i64 s.cores, .int .i64 s.gpus, .string s.tag, .bool s.whole, .int .i64 s.long, .int .i64 s.prio], .int .i64 t, .int .i64 u] w (FPostN [] false w) := by
  have hba : Below w.heap.size w (w.alloc (.cells #[.int .i64 s.nodes, .int .i64 s.cores, .int .i64 s.gpus, .string s.tag, .bool s.whole, .int .i64 s.long, .int .i64 s.prio] 27)) := (Below.refl _ _).alloc (Nat.le_refl _) _
  have HB := Lib.hid hba
  have HG := Lib.hid (hG.next hba)
  have GA := Lib.hid (hg.next hba)
  have UA := Lib.hid (hu.next hba)
  have TA := Lib.hid (hl.next hba)
  have BS : Hid (BoxS (w.alloc (.cells #[.int .i64 s.nodes, .int .i64 s.cores, .int .i64 s.gpus, .string s.tag, .bool s.whole, .int .i64 s.long, .int .i64 s.prio] 27)) w.heap.size s) := Lib.hid (box_new w s)
  have HF := Lib.hid hf
  have HS := Lib.hid hs
  have HT := Lib.hid ht
  obtain ⟨e, he⟩ : ∃ e, endsS s t = e := ⟨_, rfl⟩
  have HE := Lib.hid he
  have HTB : Hid (timeB t = true) := Lib.hid (by unfold timeB; exact decide_eq_true (by omega))
  have d1 : (t == 4611686018427387904) = true := beq_iff_eq.2 h0
  clear h0
  have _u := hv
  clear _u hba hG hg hu hl hf hs ht hv he
  go_enter Tryz.func46, Tryz.ntmps46
  have q0 := BS.out.c0
  have q1 := BS.out.c1
  have q2 := BS.out.c2
  have q3 := BS.out.c3
  have q4 := BS.out.c4
  have q5 := BS.out.c5
  have q6 := BS.out.c6
  go_wp2_with fail
  refine (s7_ends HSP HS.out HG.out HT.out HE.out).mono ?_
  rintro e w1 ⟨rfl, hb⟩
  replace HB := Lib.hid (HB.out.trans (hb.mono HB.out.size))
  replace HG := Lib.hid (HG.out.next hb)
  replace GA := Lib.hid (GA.out.next hb)
  replace UA := Lib.hid (UA.out.next hb)
  replace TA := Lib.hid (TA.out.next hb)
  replace BS := Lib.hid (BS.out.next hb)
  clear hb
  clear q0 q1 q2 q3 q4 q5 q6
  go_wp2_with fail
  refine (time_b HTB.out).mono ?_
  rintro e w2 ⟨rfl, hb⟩
  replace HB := Lib.hid (HB.out.trans (hb.mono HB.out.size))
  replace HG := Lib.hid (HG.out.next hb)
  replace GA := Lib.hid (GA.out.next hb)
  replace UA := Lib.hid (UA.out.next hb)
  replace TA := Lib.hid (TA.out.next hb)
  replace BS := Lib.hid (BS.out.next hb)
  clear hb
  go_wp2
  go_ret2
  exact ⟨⟨none, 0, rfl, RIN.nil, fun _ => rfl, Nat.le_refl _⟩, HB.out⟩
set_option maxRecDepth 100000 in
set_option maxHeartbeats 8000000 in
theorem slotAt_3 (HSP : SpecOk) {A A2 A3 : Option Addr} {n c n2 c2 n3 c3 : Nat} {g : Gr} {use : List Int} {l : Tb} {s : Sp} {t u : Int} {w : World} (hg : GAsk w A n c g) (hu : LAsk w A2 n2 c2 use) (hl : TAsk w A3 n3 c3 l) (hf : FewT l) (hs : SAsk s) (ht : I64 t) (hv : I64 u) (hG : Glob w) (h0 : 0 ≤ t) (h1 : t < 4611686018427387904) (h2 : u < endsS s t) : Calls Tryz.prog 46 #[.slice A n c, .slice A2 n2 c2, .slice A3 n3 c3, .agg #[.int .i64 s.nodes, .int .i64 s.cores, .int .i64 s.gpus, .string s.tag, .bool s.whole, .int .i64 s.long, .int .i64 s.prio], .int .i64 t, .int .i64 u] w (FPostN [] false w) := by
  have hba : Below w.heap.size w (w.alloc (.cells #[.int .i64 s.nodes, .int .i64 s.cores, .int .i64 s.gpus, .string s.tag, .bool s.whole, .int .i64 s.long, .int .i64 s.prio] 27)) := (Below.refl _ _).alloc (Nat.le_refl _) _
  have HB := Lib.hid hba
  have HG := Lib.hid (hG.next hba)
  have GA := Lib.hid (hg.next hba)
  have UA := Lib.hid (hu.next hba)
  have TA := Lib.hid (hl.next hba)
  have BS : Hid (BoxS (w.alloc (.cells #[.int .i64 s.nodes, .int .i64 s.cores, .int .i64 s.gpus, .string s.tag, .bool s.whole, .int .i64 s.long, .int .i64 s.prio] 27)) w.heap.size s) := Lib.hid (box_new w s)
  have HF := Lib.hid hf
  have HS := Lib.hid hs
  have HT := Lib.hid ht
  obtain ⟨e, he⟩ : ∃ e, endsS s t = e := ⟨_, rfl⟩
  have HE := Lib.hid he
  have HTB : Hid (timeB t = true) := Lib.hid (by unfold timeB; exact decide_eq_true (by omega))
  have d1 : (t == 4611686018427387904) = false := beq_eq_false_iff_ne.2 (by omega)
  have d2 : decide (u < e) = true := decide_eq_true (by rw [← he]; exact h2)
  clear h0 h1 h2
  have _u := hv
  clear _u hba hG hg hu hl hf hs ht hv he
  go_enter Tryz.func46, Tryz.ntmps46
  have q0 := BS.out.c0
  have q1 := BS.out.c1
  have q2 := BS.out.c2
  have q3 := BS.out.c3
  have q4 := BS.out.c4
  have q5 := BS.out.c5
  have q6 := BS.out.c6
  go_wp2_with fail
  refine (s7_ends HSP HS.out HG.out HT.out HE.out).mono ?_
  rintro e w1 ⟨rfl, hb⟩
  replace HB := Lib.hid (HB.out.trans (hb.mono HB.out.size))
  replace HG := Lib.hid (HG.out.next hb)
  replace GA := Lib.hid (GA.out.next hb)
  replace UA := Lib.hid (UA.out.next hb)
  replace TA := Lib.hid (TA.out.next hb)
  replace BS := Lib.hid (BS.out.next hb)
  clear hb
  clear q0 q1 q2 q3 q4 q5 q6
  go_wp2_with fail
  refine (time_b HTB.out).mono ?_
  rintro e w2 ⟨rfl, hb⟩
  replace HB := Lib.hid (HB.out.trans (hb.mono HB.out.size))
  replace HG := Lib.hid (HG.out.next hb)
  replace GA := Lib.hid (GA.out.next hb)
  replace UA := Lib.hid (UA.out.next hb)
  replace TA := Lib.hid (TA.out.next hb)
  replace BS := Lib.hid (BS.out.next hb)
  clear hb
  go_wp2
  go_ret2
  exact ⟨⟨none, 0, rfl, RIN.nil, fun _ => rfl, Nat.le_refl _⟩, HB.out⟩
set_option maxRecDepth 100000 in
set_option maxHeartbeats 8000000 in
theorem slotAt_4 (HD : HeldOk) (HM : MatchOk) (HSP : SpecOk) {A A2 A3 : Option Addr} {n c n2 c2 n3 c3 : Nat} {g : Gr} {use : List Int} {l : Tb} {s : Sp} {t u : Int} {w : World} (hg : GAsk w A n c g) (hu : LAsk w A2 n2 c2 use) (hl : TAsk w A3 n3 c3 l) (hf : FewT l) (hs : SAsk s) (ht : I64 t) (hv : I64 u) (hG : Glob w) (hr : rightT l = true) (h0 : 0 ≤ t) (h1 : t < 4611686018427387904) (h2 : endsS s t ≤ u) : Calls Tryz.prog 46 #[.slice A n c, .slice A2 n2 c2, .slice A3 n3 c3, .agg #[.int .i64 s.nodes, .int .i64 s.cores, .int .i64 s.gpus, .string s.tag, .bool s.whole, .int .i64 s.long, .int .i64 s.prio], .int .i64 t, .int .i64 u] w (FPostN (gotS g use l s u t) (decide (FitsS g use l s u t)) w) := by
  obtain ⟨f1, f2⟩ := at_had (g := g) (use := use) h0 h1 hr h2
  have hba : Below w.heap.size w (w.alloc (.cells #[.int .i64 s.nodes, .int .i64 s.cores, .int .i64 s.gpus, .string s.tag, .bool s.whole, .int .i64 s.long, .int .i64 s.prio] 27)) := (Below.refl _ _).alloc (Nat.le_refl _) _
  have HB := Lib.hid hba
  have HG := Lib.hid (hG.next hba)
  have GA := Lib.hid (hg.next hba)
  have UA := Lib.hid (hu.next hba)
  have TA := Lib.hid (hl.next hba)
  have BS : Hid (BoxS (w.alloc (.cells #[.int .i64 s.nodes, .int .i64 s.cores, .int .i64 s.gpus, .string s.tag, .bool s.whole, .int .i64 s.long, .int .i64 s.prio] 27)) w.heap.size s) := Lib.hid (box_new w s)
  have HF := Lib.hid hf
  have HS := Lib.hid hs
  have HT := Lib.hid ht
  obtain ⟨e, he⟩ : ∃ e, endsS s t = e := ⟨_, rfl⟩
  have HE := Lib.hid he
  rw [he] at f1 f2
  obtain ⟨bl, hbl⟩ : ∃ x, busyT l t e = x := ⟨_, rfl⟩
  have HBU := Lib.hid hbl
  have HBF : Hid (bl.length ≤ maxLen) := Lib.hid (by rw [← hbl]; exact Nat.le_trans (busy_len _ _ _) (by decide))
  rw [hbl] at f1 f2
  obtain ⟨ls, hls⟩ : ∃ x, lessL use bl = x := ⟨_, rfl⟩
  have HLS := Lib.hid hls
  have HLF : Hid (ls.length ≤ 300 ∧ ∀ x ∈ ls, I64 x) := Lib.hid ⟨by rw [← hls]; have := length_whichL 2 use bl; unfold lessL; omega, by rw [← hls]; exact less_i64⟩
  rw [hls] at f1 f2
  obtain ⟨fb, hfb⟩ : ∃ x, decide (FitsS g use l s u t) = x := ⟨_, rfl⟩
  obtain ⟨fl, hfl⟩ : ∃ x, gotS g use l s u t = x := ⟨_, rfl⟩
  rw [hfb] at f1 ⊢
  rw [hfl] at f2 ⊢
  have HFD := Lib.hid (And.intro f1 f2)
  have HUF : Hid (n2 ≤ maxLen) := Lib.hid (Nat.le_trans hu.few (by decide))
  have HTB : Hid (timeB t = true) := Lib.hid (by unfold timeB; exact decide_eq_true (by omega))
  have d1 : (t == 4611686018427387904) = false := beq_eq_false_iff_ne.2 (by omega)
  have d2 : decide (u < e) = false := decide_eq_false (by rw [← he]; omega)
  have _u := hv
  clear _u hba hG hg hu hl hf hs ht hv he hbl hls hfb hfl f1 f2 hr h0 h1 h2
  go_enter Tryz.func46, Tryz.ntmps46
  have q0 := BS.out.c0
  have q1 := BS.out.c1
  have q2 := BS.out.c2
  have q3 := BS.out.c3
  have q4 := BS.out.c4
  have q5 := BS.out.c5
  have q6 := BS.out.c6
  go_wp2_with fail
  refine (s7_ends HSP HS.out HG.out HT.out HE.out).mono ?_
  rintro e w1 ⟨rfl, hb⟩
  replace HB := Lib.hid (HB.out.trans (hb.mono HB.out.size))
  replace HG := Lib.hid (HG.out.next hb)
  replace GA := Lib.hid (GA.out.next hb)
  replace UA := Lib.hid (UA.out.next hb)
  replace TA := Lib.hid (TA.out.next hb)
  replace BS := Lib.hid (BS.out.next hb)
  clear hb
  clear q0 q1 q2 q3 q4 q5 q6
  go_wp2_with fail
  refine (time_b HTB.out).mono ?_
  rintro e w2 ⟨rfl, hb⟩
  replace HB := Lib.hid (HB.out.trans (hb.mono HB.out.size))
  replace HG := Lib.hid (HG.out.next hb)
  replace GA := Lib.hid (GA.out.next hb)
  replace UA := Lib.hid (UA.out.next hb)
  replace TA := Lib.hid (TA.out.next hb)
  replace BS := Lib.hid (BS.out.next hb)
  clear hb
  go_wp2_with fail
  have HKEEP : Hid (∀ wx, Below w2.drew.heap.size w2.drew wx → wx.cell? ⟨w.heap.size, 0, none⟩ = some (.int .i64 s.nodes) ∧ wx.cell? ⟨w.heap.size, 1, none⟩ = some (.int .i64 s.cores) ∧ wx.cell? ⟨w.heap.size, 2, none⟩ = some (.int .i64 s.gpus) ∧ wx.cell? ⟨w.heap.size, 3, none⟩ = some (.string s.tag) ∧ wx.cell? ⟨w.heap.size, 4, none⟩ = some (.bool s.whole) ∧ wx.cell? ⟨w.heap.size, 5, none⟩ = some (.int .i64 s.long) ∧ wx.cell? ⟨w.heap.size, 6, none⟩ = some (.int .i64 s.prio)) := Lib.hid (fun wx hz' => by
    have hz := (bel_drew1 w2).trans (hz'.mono (bel_drew1 w2).size)
    exact ⟨keep_cell BS.out.lt BS.out.c0 hz, keep_cell BS.out.lt BS.out.c1 hz, keep_cell BS.out.lt BS.out.c2 hz, keep_cell BS.out.lt BS.out.c3 hz, keep_cell BS.out.lt BS.out.c4 hz, keep_cell BS.out.lt BS.out.c5 hz, keep_cell BS.out.lt BS.out.c6 hz⟩)
  have hd := bel_drew1 w2
  replace HB := Lib.hid (HB.out.trans (hd.mono HB.out.size))
  replace HG := Lib.hid (HG.out.next hd)
  replace GA := Lib.hid (GA.out.next hd)
  replace UA := Lib.hid (UA.out.next hd)
  replace TA := Lib.hid (TA.out.next hd)
  replace BS := Lib.hid (BS.out.next hd)
  clear hd
  have HY := Lib.hid (Below.refl w2.drew.heap.size w2.drew)
  go_region_held3 (fun w' => w'.cell? ⟨w.heap.size, 0, none⟩ = some (.int .i64 s.nodes) ∧ w'.cell? ⟨w.heap.size, 1, none⟩ = some (.int .i64 s.cores) ∧ w'.cell? ⟨w.heap.size, 2, none⟩ = some (.int .i64 s.gpus) ∧ w'.cell? ⟨w.heap.size, 3, none⟩ = some (.string s.tag) ∧ w'.cell? ⟨w.heap.size, 4, none⟩ = some (.bool s.whole) ∧ w'.cell? ⟨w.heap.size, 5, none⟩ = some (.int .i64 s.long) ∧ w'.cell? ⟨w.heap.size, 6, none⟩ = some (.int .i64 s.prio))
    (first | exact HKEEP.out _ (Below.refl _ _) | exact HKEEP.out _ HY.out | exact HKEEP.out _ (HY.out.alloc HY.out.size _) | go_keep | fail)
    (first | (go_at_call 21; (with_reducible refine (h10_busy HD TA.out HF.out HBU.out).mono ?_); rintro e w3 ⟨⟨A5, c5, rfl, hr5, _, _⟩, hb⟩; have HY := Lib.hid (HY.out.trans (hb.mono HY.out.size)); have HB := Lib.hid (HB.out.trans (hb.mono HB.out.size)); have HG := Lib.hid (HG.out.next hb); have GA := Lib.hid (GA.out.next hb); have UA := Lib.hid (UA.out.next hb); have TA := Lib.hid (TA.out.next hb); have BS := Lib.hid (BS.out.next hb); have B5 := Lib.hid hr5; clear hb) | (go_at_call 72; (with_reducible refine (calls_ipost (s_less UA.out.reads B5.out HUF.out HBF.out HG.out) HLS.out).mono ?_); rintro e w4 ⟨⟨A6, c6, rfl, hr6, hn6, hc6⟩, hb⟩; have HY := Lib.hid (HY.out.trans (hb.mono HY.out.size)); have HB := Lib.hid (HB.out.trans (hb.mono HB.out.size)); have HG := Lib.hid (HG.out.next hb); have GA := Lib.hid (GA.out.next hb); have UA := Lib.hid (UA.out.next hb); have TA := Lib.hid (TA.out.next hb); have BS := Lib.hid (BS.out.next hb); have B5 := Lib.hid (B5.out.next hb); have L6 := Lib.hid (⟨hr6, hn6, hc6, HLF.out.1, HLF.out.2⟩ : LAsk _ A6 _ c6 ls); clear hb) | (go_at_call 71; (with_reducible refine (m9_findN HM GA.out L6.out HS.out HG.out HFD.out.2 HFD.out.1).mono ?_); rintro e w5 ⟨⟨A7, c7, rfl, hr7, hn7, hc7⟩, hb⟩; have HSZ := Lib.hid HB.out.size; have HN7 := Lib.hid hn7; have HC7 := Lib.hid hc7; have HY := Lib.hid (HY.out.trans (hb.mono HY.out.size)); have HB := Lib.hid (HB.out.trans (hb.mono HB.out.size)); have HG := Lib.hid (HG.out.next hb); have GA := Lib.hid (GA.out.next hb); have UA := Lib.hid (UA.out.next hb); have TA := Lib.hid (TA.out.next hb); have BS := Lib.hid (BS.out.next hb); have B5 := Lib.hid (B5.out.next hb); have L6 := Lib.hid (L6.out.next hb); have R7 := Lib.hid hr7; clear hb) | fail)
  clear HKEEP HY
  go_wp2
  go_ret2
  exact ⟨⟨A7, c7, rfl, R7.out.mono HSZ.out, HN7.out, HC7.out⟩, HB.out⟩
theorem slotAt_any (HD : HeldOk) (HM : MatchOk) (HSP : SpecOk) {A A2 A3 : Option Addr} {n c n2 c2 n3 c3 : Nat} {g : Gr} {use : List Int} {l : Tb} {s : Sp} {t u : Int} {w : World} (hg : GAsk w A n c g) (hu : LAsk w A2 n2 c2 use) (hl : TAsk w A3 n3 c3 l) (hf : FewT l) (hs : SAsk s) (ht : I64 t) (hv : I64 u) (hG : Glob w) (hr : rightT l = true) : Calls Tryz.prog 46 #[.slice A n c, .slice A2 n2 c2, .slice A3 n3 c3, .agg #[.int .i64 s.nodes, .int .i64 s.cores, .int .i64 s.gpus, .string s.tag, .bool s.whole, .int .i64 s.long, .int .i64 s.prio], .int .i64 t, .int .i64 u] w (FPostN (gotS g use l s u t) (decide (FitsS g use l s u t)) w) := by
  have no : ¬ FitsS g use l s u t → gotS g use l s u t = [] ∧ decide (FitsS g use l s u t) = false := fun h => ⟨gotS_no h, decide_eq_false h⟩
  by_cases h0 : 0 ≤ t ∧ t ≤ 4611686018427387904
  · by_cases h1 : t = 4611686018427387904
    · obtain ⟨e1, e2⟩ := no (fits_not (.inl (by omega)))
      rw [e1, e2]; exact slotAt_2 HSP hg hu hl hf hs ht hv hG h1
    · by_cases h2 : u < endsS s t
      · obtain ⟨e1, e2⟩ := no (fits_not (.inr h2))
        rw [e1, e2]; exact slotAt_3 HSP hg hu hl hf hs ht hv hG h0.1 (by omega) h2
      · exact slotAt_4 HD HM HSP hg hu hl hf hs ht hv hG hr h0.1 (by omega) (by omega)
  · obtain ⟨e1, e2⟩ := no (fits_not (.inl (by omega)))
    rw [e1, e2]; exact slotAt_1 HSP hg hu hl hf hs ht hv hG h0

end Go.Proofs.YtchogijdkagiiaaGreatDoor
