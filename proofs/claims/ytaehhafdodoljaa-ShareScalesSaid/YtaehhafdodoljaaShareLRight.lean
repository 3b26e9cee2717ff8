/- The walk of the statement ShareRight of layer 15, over the program's contracts. Written by gen/gen_share.py. -/
import Derived.Test.YtaehhafdodoljaaShareAwake
import Derived.Deep.RegionHeld3
import Derived.Test.YtaehhafdodoljaaLater
import Derived.Test.YtaehhafdodoljaaShareRefA
namespace Go.Proofs.Ytaehhafdodoljaa
open Go.RowKit

theorem lawSame_self (a : Nat) (w : World) : Calls Try.prog 9 #[.float .f64 a, .float .f64 a] w fun e w' => e = .returned (.bool true) ∧ Below w.heap.size w w' := by
  have h := lawSame_any a a w
  rw [decide_eq_true rfl] at h
  exact h
set_option maxRecDepth 100000 in
set_option maxHeartbeats 8000000 in
theorem shareRight_walk (H : ShareOk) (x : Nat) (hv : Int) (A : Option Addr) (n c : Nat) (l : List Nat) (u : Us) (w : World) (hx : W64 x) (hh : I64 hv) (hl : FAsk w A n c l) (hu : UsOk u) :
    Calls Try.prog 3 #[.float .f64 x, .int .i64 hv, .slice A n c, .agg #[.int .i64 u.who, .float .f64 u.had, .float .f64 u.weight]] w fun e w' => e = .returned (.bool true) ∧ Below w.heap.size w w' := by
  have hb0 : Below w.heap.size w (w.alloc (.cells #[.int .i64 u.who, .float .f64 u.had, .float .f64 u.weight] 25)) := (Below.refl _ _).alloc (Nat.le_refl _) _
  have BU : Hid (BoxU (w.alloc (.cells #[.int .i64 u.who, .float .f64 u.had, .float .f64 u.weight] 25)) w.heap.size u) := Lib.hid (boxU_new w u)
  have HB := Lib.hid hb0
  have HX := Lib.hid hx
  have HH := Lib.hid hh
  have HU := Lib.hid hu
  have hcap := hl.cap
  by_cases h2 : n ≤ 200
  · have LA := Lib.hid (hl.next hb0)
    have HM2 : Hid (n ≤ 200) := Lib.hid h2
    clear hx hh hu hl hb0
    go_enter Try.func3, Try.ntmps3
    go_wp2_with fail
    refine (shareAwake H (w.alloc (.cells #[.int .i64 u.who, .float .f64 u.had, .float .f64 u.weight] 25))).mono ?_
    rintro e w1 ⟨rfl, hb⟩
    have HBq := Lib.hid (HB.out.trans (hb.mono HB.out.size))
    clear HB
    have HB := HBq
    clear HBq
    have LAq := Lib.hid (LA.out.next hb)
    clear LA
    have LA := LAq
    clear LAq
    have BUq := Lib.hid (BU.out.next hb)
    clear BU
    have BU := BUq
    clear BUq
    clear hb
    go_wp2
    have HKEEP : Hid (∀ wx, Below w1.drew.heap.size w1.drew wx → wx.cell? ⟨w.heap.size, 0, none⟩ = some (.int .i64 u.who) ∧ wx.cell? ⟨w.heap.size, 1, none⟩ = some (.float .f64 u.had) ∧ wx.cell? ⟨w.heap.size, 2, none⟩ = some (.float .f64 u.weight)) := Lib.hid (fun wx hz' => by
      have hz := (bel_drew1 w1).trans (hz'.mono (bel_drew1 w1).size)
      exact ⟨keep_cell BU.out.lt BU.out.c0 hz, keep_cell BU.out.lt BU.out.c1 hz, keep_cell BU.out.lt BU.out.c2 hz⟩)
    have hd := bel_drew1 w1
    have HBq := Lib.hid (HB.out.trans (hd.mono HB.out.size))
    clear HB
    have HB := HBq
    clear HBq
    have LAq := Lib.hid (LA.out.next hd)
    clear LA
    have LA := LAq
    clear LAq
    have BUq := Lib.hid (BU.out.next hd)
    clear BU
    have BU := BUq
    clear BUq
    clear hd
    have HY := Lib.hid (Below.refl w1.drew.heap.size w1.drew)
    go_region_held3 (fun w' => w'.cell? ⟨w.heap.size, 0, none⟩ = some (.int .i64 u.who) ∧ w'.cell? ⟨w.heap.size, 1, none⟩ = some (.float .f64 u.had) ∧ w'.cell? ⟨w.heap.size, 2, none⟩ = some (.float .f64 u.weight))
      (first | exact HKEEP.out _ (Below.refl _ _) | exact HKEEP.out _ HY.out | exact HKEEP.out _ (HY.out.alloc HY.out.size _) | go_keep | fail)
      (first | (go_at_call 10; (with_reducible refine (H.clean x w1.drew HX.out).mono ?_); rintro e w2 ⟨rfl, hb⟩; have HY := Lib.hid (HY.out.trans (hb.mono HY.out.size)); have HB := Lib.hid (HB.out.trans (hb.mono HB.out.size)); have LA := Lib.hid (LA.out.next hb); have BU := Lib.hid (BU.out.next hb); clear hb) | (go_at_call 11; (with_reducible refine (refClean_any x w2 HX.out).mono ?_); rintro e w3 ⟨rfl, hb⟩; have HY := Lib.hid (HY.out.trans (hb.mono HY.out.size)); have HB := Lib.hid (HB.out.trans (hb.mono HB.out.size)); have LA := Lib.hid (LA.out.next hb); have BU := Lib.hid (BU.out.next hb); clear hb) | (go_at_call 9; (with_reducible refine (lawSame_self (cleanF x) w3).mono ?_); rintro e w4 ⟨rfl, hb⟩; have HY := Lib.hid (HY.out.trans (hb.mono HY.out.size)); have HB := Lib.hid (HB.out.trans (hb.mono HB.out.size)); have LA := Lib.hid (LA.out.next hb); have BU := Lib.hid (BU.out.next hb); clear hb) | (go_at_call 12; (with_reducible refine (H.fade x hv w4 HX.out HH.out).mono ?_); rintro e w5 ⟨rfl, hb⟩; have HY := Lib.hid (HY.out.trans (hb.mono HY.out.size)); have HB := Lib.hid (HB.out.trans (hb.mono HB.out.size)); have LA := Lib.hid (LA.out.next hb); have BU := Lib.hid (BU.out.next hb); clear hb) | (go_at_call 13; (with_reducible refine (refFade_any x hv w5 HX.out).mono ?_); rintro e w6 ⟨rfl, hb⟩; have HY := Lib.hid (HY.out.trans (hb.mono HY.out.size)); have HB := Lib.hid (HB.out.trans (hb.mono HB.out.size)); have LA := Lib.hid (LA.out.next hb); have BU := Lib.hid (BU.out.next hb); clear hb) | (go_at_call 9; (with_reducible refine (lawSame_self (fadeV x hv) w6).mono ?_); rintro e w7 ⟨rfl, hb⟩; have HY := Lib.hid (HY.out.trans (hb.mono HY.out.size)); have HB := Lib.hid (HB.out.trans (hb.mono HB.out.size)); have LA := Lib.hid (LA.out.next hb); have BU := Lib.hid (BU.out.next hb); clear hb) | (go_at_call 14; (with_reducible refine (H.sum A n c l w7 LA.out HM2.out).mono ?_); rintro e w8 ⟨rfl, hb⟩; have HY := Lib.hid (HY.out.trans (hb.mono HY.out.size)); have HB := Lib.hid (HB.out.trans (hb.mono HB.out.size)); have LA := Lib.hid (LA.out.next hb); have BU := Lib.hid (BU.out.next hb); clear hb) | (go_at_call 15; (with_reducible refine (refSum_any A n c l w8 LA.out).mono ?_); rintro e w9 ⟨rfl, hb⟩; have HY := Lib.hid (HY.out.trans (hb.mono HY.out.size)); have HB := Lib.hid (HB.out.trans (hb.mono HB.out.size)); have LA := Lib.hid (LA.out.next hb); have BU := Lib.hid (BU.out.next hb); clear hb) | (go_at_call 9; (with_reducible refine (lawSame_self (sumF l) w9).mono ?_); rintro e w10 ⟨rfl, hb⟩; have HY := Lib.hid (HY.out.trans (hb.mono HY.out.size)); have HB := Lib.hid (HB.out.trans (hb.mono HB.out.size)); have LA := Lib.hid (LA.out.next hb); have BU := Lib.hid (BU.out.next hb); clear hb) | (go_at_call 16; (with_reducible refine (H.share u w10 HU.out).mono ?_); rintro e w11 ⟨rfl, hb⟩; have HY := Lib.hid (HY.out.trans (hb.mono HY.out.size)); have HB := Lib.hid (HB.out.trans (hb.mono HB.out.size)); have LA := Lib.hid (LA.out.next hb); have BU := Lib.hid (BU.out.next hb); clear hb) | (go_at_call 17; (with_reducible refine (refShare_any u w11 HU.out).mono ?_); rintro e w12 ⟨rfl, hb⟩; have HY := Lib.hid (HY.out.trans (hb.mono HY.out.size)); have HB := Lib.hid (HB.out.trans (hb.mono HB.out.size)); have LA := Lib.hid (LA.out.next hb); have BU := Lib.hid (BU.out.next hb); clear hb) | (go_at_call 9; (with_reducible refine (lawSame_self (shareU u) w12).mono ?_); rintro e w13 ⟨rfl, hb⟩; have HY := Lib.hid (HY.out.trans (hb.mono HY.out.size)); have HB := Lib.hid (HB.out.trans (hb.mono HB.out.size)); have LA := Lib.hid (LA.out.next hb); have BU := Lib.hid (BU.out.next hb); clear hb) | fail)
    clear HKEEP HY
    go_wp2
    go_ret
    exact ⟨rfl, HB.out⟩

  · have LA := Lib.hid ((hl.take (k := 200) (by omega)).next hb0)
    have HM2 : Hid (200 ≤ 200) := Lib.hid (Nat.le_refl _)
    obtain ⟨lm, hlm⟩ : ∃ lm, l.take 200 = lm := ⟨_, rfl⟩
    rw [hlm] at LA
    clear hx hh hu hl hb0 hlm
    go_enter Try.func3, Try.ntmps3
    go_wp2_with fail
    refine (shareAwake H (w.alloc (.cells #[.int .i64 u.who, .float .f64 u.had, .float .f64 u.weight] 25))).mono ?_
    rintro e w1 ⟨rfl, hb⟩
    have HBq := Lib.hid (HB.out.trans (hb.mono HB.out.size))
    clear HB
    have HB := HBq
    clear HBq
    have LAq := Lib.hid (LA.out.next hb)
    clear LA
    have LA := LAq
    clear LAq
    have BUq := Lib.hid (BU.out.next hb)
    clear BU
    have BU := BUq
    clear BUq
    clear hb
    go_wp2
    have HKEEP : Hid (∀ wx, Below w1.drew.heap.size w1.drew wx → wx.cell? ⟨w.heap.size, 0, none⟩ = some (.int .i64 u.who) ∧ wx.cell? ⟨w.heap.size, 1, none⟩ = some (.float .f64 u.had) ∧ wx.cell? ⟨w.heap.size, 2, none⟩ = some (.float .f64 u.weight)) := Lib.hid (fun wx hz' => by
      have hz := (bel_drew1 w1).trans (hz'.mono (bel_drew1 w1).size)
      exact ⟨keep_cell BU.out.lt BU.out.c0 hz, keep_cell BU.out.lt BU.out.c1 hz, keep_cell BU.out.lt BU.out.c2 hz⟩)
    have hd := bel_drew1 w1
    have HBq := Lib.hid (HB.out.trans (hd.mono HB.out.size))
    clear HB
    have HB := HBq
    clear HBq
    have LAq := Lib.hid (LA.out.next hd)
    clear LA
    have LA := LAq
    clear LAq
    have BUq := Lib.hid (BU.out.next hd)
    clear BU
    have BU := BUq
    clear BUq
    clear hd
    have HY := Lib.hid (Below.refl w1.drew.heap.size w1.drew)
    go_region_held3 (fun w' => w'.cell? ⟨w.heap.size, 0, none⟩ = some (.int .i64 u.who) ∧ w'.cell? ⟨w.heap.size, 1, none⟩ = some (.float .f64 u.had) ∧ w'.cell? ⟨w.heap.size, 2, none⟩ = some (.float .f64 u.weight))
      (first | exact HKEEP.out _ (Below.refl _ _) | exact HKEEP.out _ HY.out | exact HKEEP.out _ (HY.out.alloc HY.out.size _) | go_keep | fail)
      (first | (go_at_call 10; (with_reducible refine (H.clean x w1.drew HX.out).mono ?_); rintro e w2 ⟨rfl, hb⟩; have HY := Lib.hid (HY.out.trans (hb.mono HY.out.size)); have HB := Lib.hid (HB.out.trans (hb.mono HB.out.size)); have LA := Lib.hid (LA.out.next hb); have BU := Lib.hid (BU.out.next hb); clear hb) | (go_at_call 11; (with_reducible refine (refClean_any x w2 HX.out).mono ?_); rintro e w3 ⟨rfl, hb⟩; have HY := Lib.hid (HY.out.trans (hb.mono HY.out.size)); have HB := Lib.hid (HB.out.trans (hb.mono HB.out.size)); have LA := Lib.hid (LA.out.next hb); have BU := Lib.hid (BU.out.next hb); clear hb) | (go_at_call 9; (with_reducible refine (lawSame_self (cleanF x) w3).mono ?_); rintro e w4 ⟨rfl, hb⟩; have HY := Lib.hid (HY.out.trans (hb.mono HY.out.size)); have HB := Lib.hid (HB.out.trans (hb.mono HB.out.size)); have LA := Lib.hid (LA.out.next hb); have BU := Lib.hid (BU.out.next hb); clear hb) | (go_at_call 12; (with_reducible refine (H.fade x hv w4 HX.out HH.out).mono ?_); rintro e w5 ⟨rfl, hb⟩; have HY := Lib.hid (HY.out.trans (hb.mono HY.out.size)); have HB := Lib.hid (HB.out.trans (hb.mono HB.out.size)); have LA := Lib.hid (LA.out.next hb); have BU := Lib.hid (BU.out.next hb); clear hb) | (go_at_call 13; (with_reducible refine (refFade_any x hv w5 HX.out).mono ?_); rintro e w6 ⟨rfl, hb⟩; have HY := Lib.hid (HY.out.trans (hb.mono HY.out.size)); have HB := Lib.hid (HB.out.trans (hb.mono HB.out.size)); have LA := Lib.hid (LA.out.next hb); have BU := Lib.hid (BU.out.next hb); clear hb) | (go_at_call 9; (with_reducible refine (lawSame_self (fadeV x hv) w6).mono ?_); rintro e w7 ⟨rfl, hb⟩; have HY := Lib.hid (HY.out.trans (hb.mono HY.out.size)); have HB := Lib.hid (HB.out.trans (hb.mono HB.out.size)); have LA := Lib.hid (LA.out.next hb); have BU := Lib.hid (BU.out.next hb); clear hb) | (go_at_call 14; (with_reducible refine (H.sum A 200 c lm w7 LA.out HM2.out).mono ?_); rintro e w8 ⟨rfl, hb⟩; have HY := Lib.hid (HY.out.trans (hb.mono HY.out.size)); have HB := Lib.hid (HB.out.trans (hb.mono HB.out.size)); have LA := Lib.hid (LA.out.next hb); have BU := Lib.hid (BU.out.next hb); clear hb) | (go_at_call 15; (with_reducible refine (refSum_any A 200 c lm w8 LA.out).mono ?_); rintro e w9 ⟨rfl, hb⟩; have HY := Lib.hid (HY.out.trans (hb.mono HY.out.size)); have HB := Lib.hid (HB.out.trans (hb.mono HB.out.size)); have LA := Lib.hid (LA.out.next hb); have BU := Lib.hid (BU.out.next hb); clear hb) | (go_at_call 9; (with_reducible refine (lawSame_self (sumF lm) w9).mono ?_); rintro e w10 ⟨rfl, hb⟩; have HY := Lib.hid (HY.out.trans (hb.mono HY.out.size)); have HB := Lib.hid (HB.out.trans (hb.mono HB.out.size)); have LA := Lib.hid (LA.out.next hb); have BU := Lib.hid (BU.out.next hb); clear hb) | (go_at_call 16; (with_reducible refine (H.share u w10 HU.out).mono ?_); rintro e w11 ⟨rfl, hb⟩; have HY := Lib.hid (HY.out.trans (hb.mono HY.out.size)); have HB := Lib.hid (HB.out.trans (hb.mono HB.out.size)); have LA := Lib.hid (LA.out.next hb); have BU := Lib.hid (BU.out.next hb); clear hb) | (go_at_call 17; (with_reducible refine (refShare_any u w11 HU.out).mono ?_); rintro e w12 ⟨rfl, hb⟩; have HY := Lib.hid (HY.out.trans (hb.mono HY.out.size)); have HB := Lib.hid (HB.out.trans (hb.mono HB.out.size)); have LA := Lib.hid (LA.out.next hb); have BU := Lib.hid (BU.out.next hb); clear hb) | (go_at_call 9; (with_reducible refine (lawSame_self (shareU u) w12).mono ?_); rintro e w13 ⟨rfl, hb⟩; have HY := Lib.hid (HY.out.trans (hb.mono HY.out.size)); have HB := Lib.hid (HB.out.trans (hb.mono HB.out.size)); have LA := Lib.hid (LA.out.next hb); have BU := Lib.hid (BU.out.next hb); clear hb) | fail)
    clear HKEEP HY
    go_wp2
    go_ret
    exact ⟨rfl, HB.out⟩


end Go.Proofs.Ytaehhafdodoljaa
