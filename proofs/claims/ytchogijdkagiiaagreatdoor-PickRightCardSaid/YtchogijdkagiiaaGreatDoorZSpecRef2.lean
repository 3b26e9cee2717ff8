/- The reference's functions of layer 7 (bailiwickref07): Ends, Ahead: what they answer of any spec. -/
import Derived.Deep.QuietTactic
import Derived.BigQuiet
import Derived.Test.YtchogijdkagiiaaGreatDoorZSpecRef
namespace Go.Proofs.YtchogijdkagiiaaGreatDoor
open Go.RowKit

theorem refRightS_b {s : Sp} {w : World} {b : Bool} (hs : SAsk s) (h : rightS s = b) :
    Calls Tryz.prog 51 #[spV s] w fun e w' => e = .returned (.bool b) ∧ Below w.heap.size w w' := by
  subst h
  obtain ⟨sn, sc, sg, st, sw, sl, sp⟩ := s
  exact refRightV_any sn sc sg st sw sl sp w hs.tag

set_option maxRecDepth 100000 in
set_option maxHeartbeats 2000000 in
theorem refEndsV_any (sn sc sg : Int) (st : ByteArray) (sw : Bool) (sl sp a : Int) (w : World) (hs : SAsk ⟨sn, sc, sg, st, sw, sl, sp⟩) (ha : I64 a) :
    Calls Tryz.prog 30 #[.agg #[.int .i64 sn, .int .i64 sc, .int .i64 sg, .string st, .bool sw, .int .i64 sl, .int .i64 sp], .int .i64 a] w fun e w' => e = .returned (.int .i64 (endsS ⟨sn, sc, sg, st, sw, sl, sp⟩ a)) ∧ Below w.heap.size w w' := by
  have HS := Lib.hid hs
  have HA := Lib.hid ha
  have HL := Lib.hid hs.long
  obtain ⟨W, hW⟩ : ∃ W, W = w.alloc (.cells #[.int .i64 sn, .int .i64 sc, .int .i64 sg, .string st, .bool sw, .int .i64 sl, .int .i64 sp] 27) := ⟨_, rfl⟩
  have hBW : Below w.heap.size w W := by rw [hW]; exact (Below.refl _ _).alloc (Nat.le_refl _) _
  have hcl : W.cell? ⟨w.heap.size, 5, none⟩ = some (.int .i64 sl) := by rw [hW, World.cell?_alloc_at _ _ _ _ rfl]; rfl
  have hlt : w.heap.size < W.heap.size := by rw [hW]; simp
  cases hr : rightS ⟨sn, sc, sg, st, sw, sl, sp⟩ with
  | false =>
    have e0 : endsS ⟨sn, sc, sg, st, sw, sl, sp⟩ a = plusZ a 0 := by unfold endsS; rw [if_neg (by rw [hr]; simp)]
    rw [e0]
    have HR := Lib.hid (refRightS_b (w := W) hs hr)
    have HBW := Lib.hid hBW
    clear hr e0 hs ha hBW hcl hlt
    go_enter Tryz.func30, Tryz.ntmps30
    go_wp2_with fail
    rw [← hW]
    refine (HR.out).mono ?_
    rintro e w1 ⟨rfl, hb⟩
    have HB := Lib.hid (HBW.out.trans (hb.mono HBW.out.size))
    clear hb
    go_wp2_with fail
    refine (refPlus_any _ _ _ HA.out.1 HA.out.2 (by omega) (by omega)).mono ?_
    rintro e w2 ⟨rfl, rfl⟩
    go_wp2
    go_ret
    exact ⟨rfl, HB.out⟩
  | true =>
    have e0 : endsS ⟨sn, sc, sg, st, sw, sl, sp⟩ a = plusZ a sl := by unfold endsS; rw [if_pos hr]
    rw [e0]
    have HR := Lib.hid (refRightS_b (w := W) hs hr)
    have HBW := Lib.hid hBW
    have HCL := Lib.hid (And.intro hcl hlt)
    clear hr e0 hs ha hBW hcl hlt
    go_enter Tryz.func30, Tryz.ntmps30
    go_wp2_with fail
    rw [← hW]
    refine (HR.out).mono ?_
    rintro e w1 ⟨rfl, hb⟩
    have HB := Lib.hid (HBW.out.trans (hb.mono HBW.out.size))
    have hc1 : w1.cell? ⟨w.heap.size, 5, none⟩ = some (.int .i64 sl) := (hb.cell (p := ⟨w.heap.size, 5, none⟩) HCL.out.2).trans HCL.out.1
    clear hb
    go_wp2_with fail
    refine (refPlus_any _ _ _ HA.out.1 HA.out.2 HL.out.1 HL.out.2).mono ?_
    rintro e w2 ⟨rfl, rfl⟩
    go_wp2
    go_ret
    exact ⟨rfl, HB.out⟩

end Go.Proofs.YtchogijdkagiiaaGreatDoor
