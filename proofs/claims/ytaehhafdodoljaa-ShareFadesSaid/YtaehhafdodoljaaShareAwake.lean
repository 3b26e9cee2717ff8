/- The fixed answers with which each statement of layer 15 begins; the laws' same, math's Inf and Signbit. Written by gen/gen_share.py. -/
import Derived.Test.YtaehhafdodoljaaShareFace
import Derived.Test.YtaehhafdodoljaaSame01
import Derived.Laws.Externs
import Derived.Laws.FloatArith
import Derived.LoopTactic
namespace Go.Proofs.Ytaehhafdodoljaa
open Go.RowKit

@[go_sem] theorem fbits_call (b : Nat) (W : World) : (callFunc 25 #[.float .f64 b]).run Try.prog W = .ok (.value (.int .u64 b)) W := by
  rw [run_callFunc_extern Try.func25 (by kernel_rfl) (by kernel_rfl) (by kernel_rfl) (e := Extern.MathFloatBits.float64bits) (by kernel_rfl)]; rfl
@[go_sem] theorem ffrom_call (b : Int) (W : World) : (callFunc 36 #[.int .u64 b]).run Try.prog W = .ok (.value (.float .f64 b.toNat)) W := by
  rw [run_callFunc_extern Try.func36 (by kernel_rfl) (by kernel_rfl) (by kernel_rfl) (e := Extern.MathFloatBits.float64frombits) (by kernel_rfl)]; rfl
theorem lawSame_any (a b : Nat) (w : World) : Calls Try.prog 9 #[.float .f64 a, .float .f64 b] w fun e w' => e = .returned (.bool (decide (a = b))) ∧ Below w.heap.size w w' := by
  have HB := Lib.hid (Below.refl w.heap.size w)
  have hd : decide (a = b) = ((a : Int) == (b : Int)) := by rw [Bool.eq_iff_iff, decide_eq_true_eq, beq_iff_eq]; omega
  rw [hd]
  clear hd
  go_enter Try.func9, Try.ntmps9
  go_wp2
  go_ret
  exact ⟨by simp, HB.out⟩
theorem inf_any (w : World) : Calls Try.prog 24 #[.int .i64 1] w fun e w' => e = .returned (.float .f64 9218868437227405312) ∧ Below w.heap.size w w' := by
  have HB := Lib.hid (Below.refl w.heap.size w)
  go_enter Try.func24, Try.ntmps24
  go_wp2
  go_ret
  exact ⟨by rfl, HB.out⟩
theorem signbit_any (a : Nat) (w : World) (ha : a ≤ 9218868437227405312) : Calls Try.prog 23 #[.float .f64 a] w fun e w' => e = .returned (.bool false) ∧ Below w.heap.size w w' := by
  have HB := Lib.hid (Below.refl w.heap.size w)
  have d0 : decide ((a : Int) < 0) = false := decide_eq_false (by omega)
  go_enter Try.func23, Try.ntmps23
  go_wp2
  go_ret
  exact ⟨by simp, HB.out⟩
theorem ri_lit3 (w : World) : RI (w.alloc (.cells #[.int .i64 1, .int .i64 0, .int .i64 2] 3)) (w.alloc (.cells #[.int .i64 1, .int .i64 0, .int .i64 2] 3)).heap.size (some ⟨w.heap.size, 0, none⟩) 3 [1, 0, 2] := by
  refine ⟨rfl, fun _ => ⟨w.heap.size, 0, rfl, by simp, fun k hk => ?_⟩⟩
  rw [World.cell?_alloc_at (w := w) _ _ w.heap.size _ rfl]
  have : k = 0 ∨ k = 1 ∨ k = 2 := by omega
  rcases this with rfl | rfl | rfl <;> rfl
theorem ask_us3 (w : World) : UAsk (w.alloc (.cells #[.int .i64 1, .float .f64 4618441417868443648, .float .f64 4611686018427387904, .int .i64 2, .float .f64 4607182418800017408, .float .f64 4607182418800017408, .int .i64 3, .float .f64 4617315517961601024, .float .f64 0] 25)) (some ⟨w.heap.size, 0, none⟩) 3 3 [⟨1, 4618441417868443648, 4611686018427387904⟩, ⟨2, 4607182418800017408, 4607182418800017408⟩, ⟨3, 4617315517961601024, 0⟩] := by
  refine ⟨⟨rfl, fun _ => ⟨w.heap.size, 0, rfl, by show w.heap.size < _; simp, fun j x hj => ?_⟩⟩, (fun h => by cases h), Nat.le_refl _, by decide⟩
  have hj3 : j < 3 := (List.getElem?_eq_some_iff.1 hj).1
  have : j = 0 ∨ j = 1 ∨ j = 2 := by omega
  rcases this with rfl | rfl | rfl
  all_goals
    have hj' := Option.some.inj hj
    subst hj'
    refine ⟨_, rfl, fun i v hv => ?_, rfl, ⟨by decide, by unfold W64; decide, by unfold W64; decide⟩⟩
    have hi : i < 3 := (List.getElem?_eq_some_iff.1 hv).1
    have : i = 0 ∨ i = 1 ∨ i = 2 := by omega
    rcases this with rfl | rfl | rfl
    all_goals
      rw [World.cell?_alloc_at (w := w) _ _ w.heap.size _ rfl]
      exact hv
set_option maxRecDepth 100000 in
set_option maxHeartbeats 8000000 in
theorem shareAwake (H : ShareOk) (w : World) : Calls Try.prog 8 #[] w fun e w' => e = .returned (.bool true) ∧ Below w.heap.size w w' := by
  have eo : orderU [⟨1, 4618441417868443648, 4611686018427387904⟩, ⟨2, 4607182418800017408, 4607182418800017408⟩, ⟨3, 4617315517961601024, 0⟩] = [1, 0, 2] := by decide +kernel
  have ef : fadeV 4620693217682128896 2 = 4611686018427387904 := by decide +kernel
  have eb : bonusU [⟨1, 4618441417868443648, 4611686018427387904⟩, ⟨2, 4607182418800017408, 4607182418800017408⟩, ⟨3, 4617315517961601024, 0⟩] 2 = 2 := by decide +kernel
  have ec : cleanF 9218868437227405312 = 9218868437227405311 := by decide
  have k1 : (FloatKind.f64.format.order 4611686018427387904 4611686018427387904 == some Ordering.eq) = true := by decide +kernel
  have k2 : (FloatKind.f64.format.order 9218868437227405311 9218868437227405311 == some Ordering.eq) = true := by decide +kernel
  have hb0 : Below w.heap.size w (w.alloc (.cells #[.int .i64 1, .float .f64 4618441417868443648, .float .f64 4611686018427387904, .int .i64 2, .float .f64 4607182418800017408, .float .f64 4607182418800017408, .int .i64 3, .float .f64 4617315517961601024, .float .f64 0] 25)) := (Below.refl _ _).alloc (Nat.le_refl _) _
  have HB := Lib.hid hb0
  have UA := Lib.hid (ask_us3 w)
  have HO := Lib.hid (fun W h => s15_o (H.order (some ⟨w.heap.size, 0, none⟩) 3 3 [⟨1, 4618441417868443648, 4611686018427387904⟩, ⟨2, 4607182418800017408, 4607182418800017408⟩, ⟨3, 4617315517961601024, 0⟩] W h (by decide)) eo)
  have HFD := Lib.hid (fun W => s15_v (H.fade 4620693217682128896 2 W (by unfold W64; decide) (by unfold I64; decide)) ef)
  have HCL := Lib.hid (fun W => s15_v (H.clean 9218868437227405312 W (by unfold W64; decide)) ec)
  have HBO := Lib.hid (fun W h => s15_i (H.bonus (some ⟨w.heap.size, 0, none⟩) 3 3 [⟨1, 4618441417868443648, 4611686018427387904⟩, ⟨2, 4607182418800017408, 4607182418800017408⟩, ⟨3, 4617315517961601024, 0⟩] 2 W h (by unfold I64; decide) (by decide)) eb)
  clear hb0 eo ef eb ec
  go_enter Try.func8, Try.ntmps8
  go_wp2_with fail
  refine (HO.out _ UA.out).mono ?_
  rintro e w1 ⟨⟨A1, c1, rfl, hr, hn, hc⟩, hb⟩
  have R1 := Lib.hid hr
  have UAq := Lib.hid (UA.out.next hb)
  clear UA
  have UA := UAq
  clear UAq
  have HBq := Lib.hid (HB.out.trans (hb.mono HB.out.size))
  clear HB
  have HB := HBq
  clear HBq
  clear hb hr hn hc
  have hb1 : Below w1.heap.size w1 (w1.alloc (.cells #[.int .i64 1, .int .i64 0, .int .i64 2] 3)) := (Below.refl _ _).alloc (Nat.le_refl _) _
  have R2 := Lib.hid (R1.out.next hb1)
  have R3 := Lib.hid (ri_lit3 w1)
  have UAq := Lib.hid (UA.out.next hb1)
  clear UA
  have UA := UAq
  clear UAq
  have HBq := Lib.hid (HB.out.trans (hb1.mono HB.out.size))
  clear HB
  have HB := HBq
  clear HBq
  clear hb1 R1
  go_wp2_with fail
  refine (same_any _ _ _ _ _ _ _ _ _ _ _ R2.out R3.out (by unfold maxLen; decide) (by unfold maxLen; decide)).mono ?_
  rintro e w2 ⟨rfl, q, rfl⟩
  have es : sameB [1, 0, 2] [1, 0, 2] = true := by decide
  have hb := bel_drew (w1.alloc (.cells #[.int .i64 1, .int .i64 0, .int .i64 2] 3)) q
  have UAq := Lib.hid (UA.out.next hb)
  clear UA
  have UA := UAq
  clear UAq
  have HBq := Lib.hid (HB.out.trans (hb.mono HB.out.size))
  clear HB
  have HB := HBq
  clear HBq
  clear hb R2 R3
  go_wp2_with fail
  refine (HFD.out _).mono ?_
  rintro e w3 ⟨rfl, hb⟩
  have UAq := Lib.hid (UA.out.next hb)
  clear UA
  have UA := UAq
  clear UAq
  have HBq := Lib.hid (HB.out.trans (hb.mono HB.out.size))
  clear HB
  have HB := HBq
  clear HBq
  clear hb
  go_wp2_with fail
  refine (inf_any _).mono ?_
  rintro e w4 ⟨rfl, hb⟩
  have UAq := Lib.hid (UA.out.next hb)
  clear UA
  have UA := UAq
  clear UAq
  have HBq := Lib.hid (HB.out.trans (hb.mono HB.out.size))
  clear HB
  have HB := HBq
  clear HBq
  clear hb
  go_wp2_with fail
  refine (HCL.out _).mono ?_
  rintro e w5 ⟨rfl, hb⟩
  have UAq := Lib.hid (UA.out.next hb)
  clear UA
  have UA := UAq
  clear UAq
  have HBq := Lib.hid (HB.out.trans (hb.mono HB.out.size))
  clear HB
  have HB := HBq
  clear HBq
  clear hb
  go_wp2_with fail
  refine (HBO.out _ UA.out).mono ?_
  rintro e w6 ⟨rfl, hb⟩
  have HBq := Lib.hid (HB.out.trans (hb.mono HB.out.size))
  clear HB
  have HB := HBq
  clear HBq
  clear hb
  go_wp2
  go_ret
  exact ⟨rfl, HB.out⟩

end Go.Proofs.Ytaehhafdodoljaa
