/- The walk of the statement ShareRanks of layer 15, over the program's contracts. Written by gen/gen_share.py. -/
import Derived.Test.YtaehhafdodoljaaShareAwake
import Derived.Deep.RegionHeld3
import Derived.Test.YtaehhafdodoljaaLater
import Derived.Test.YtaehhafdodoljaaShareRefB
namespace Go.Proofs.Ytaehhafdodoljaa
open Go.RowKit

set_option maxRecDepth 100000 in
set_option maxHeartbeats 8000000 in
theorem shareRanks_walk (H : ShareOk) (A : Option Addr) (n c : Nat) (l : List Us) (who : Int) (w : World) (hl : UAsk w A n c l) (hw : I64 who) :
    Calls Try.prog 4 #[.slice A n c, .int .i64 who] w fun e w' => e = .returned (.bool true) ∧ Below w.heap.size w w' := by
  have HB := Lib.hid (Below.refl w.heap.size w)
  have HW := Lib.hid hw
  have hcap := hl.cap
  by_cases h2 : n ≤ 60
  · have UA := Lib.hid hl
    have HM2 : Hid (n ≤ 60) := Lib.hid h2
    obtain ⟨o, ho⟩ : ∃ o, orderU l = o := ⟨_, rfl⟩
    have HO := Lib.hid ho
    have HOL : Hid (o.length = n) := Lib.hid (by rw [← ho, orderU_length, hl.len])
    clear hw hl ho
    go_enter Try.func4, Try.ntmps4
    go_wp2_with fail
    refine (shareAwake H w).mono ?_
    rintro e w1 ⟨rfl, hb⟩
    have HBq := Lib.hid (HB.out.trans (hb.mono HB.out.size))
    clear HB
    have HB := HBq
    clear HBq
    have UAq := Lib.hid (UA.out.next hb)
    clear UA
    have UA := UAq
    clear UAq
    clear hb
    go_wp2_with fail
    refine (s15_o (H.order A n c l w1 UA.out (by have := HM2.out; omega)) HO.out).mono ?_
    rintro e w2 ⟨⟨A1, c1, rfl, hr1, hn1, hc1⟩, hb⟩
    rw [HOL.out] at hr1 ⊢
    have HBq := Lib.hid (HB.out.trans (hb.mono HB.out.size))
    clear HB
    have HB := HBq
    clear HBq
    have UAq := Lib.hid (UA.out.next hb)
    clear UA
    have UA := UAq
    clear UAq
    clear hb
    have R1 := Lib.hid hr1
    clear hr1
    clear hn1 hc1
    go_wp2_with fail
    refine (s15_o (refOrder_any A n c l w2 UA.out (by have := HM2.out; omega)) HO.out).mono ?_
    rintro e w3 ⟨⟨A2, c2, rfl, hr2, hn2, hc2⟩, hb⟩
    rw [HOL.out] at hr2 ⊢
    have HBq := Lib.hid (HB.out.trans (hb.mono HB.out.size))
    clear HB
    have HB := HBq
    clear HBq
    have UAq := Lib.hid (UA.out.next hb)
    clear UA
    have UA := UAq
    clear UAq
    have R1q := Lib.hid (R1.out.next hb)
    clear R1
    have R1 := R1q
    clear R1q
    clear hb
    have R2 := Lib.hid hr2
    clear hr2
    clear hn2 hc2
    have es : sameB o o = true := sameB_iff.2 rfl
    go_wp2_with fail
    refine (same_any _ _ _ _ _ _ _ _ _ _ _ R1.out R2.out (by have := HM2.out; unfold maxLen; omega) (by have := HM2.out; unfold maxLen; omega)).mono ?_
    rintro e w4 ⟨rfl, q, rfl⟩
    have hb := bel_drew w3 q
    have HBq := Lib.hid (HB.out.trans (hb.mono HB.out.size))
    clear HB
    have HB := HBq
    clear HBq
    have UAq := Lib.hid (UA.out.next hb)
    clear UA
    have UA := UAq
    clear UAq
    have R1q := Lib.hid (R1.out.next hb)
    clear R1
    have R1 := R1q
    clear R1q
    have R2q := Lib.hid (R2.out.next hb)
    clear R2
    have R2 := R2q
    clear R2q
    clear hb
    go_wp2_with fail
    refine (H.bonus A n c l who _ UA.out HW.out (by have := HM2.out; omega)).mono ?_
    rintro e w5 ⟨rfl, hb⟩
    have HBq := Lib.hid (HB.out.trans (hb.mono HB.out.size))
    clear HB
    have HB := HBq
    clear HBq
    have UAq := Lib.hid (UA.out.next hb)
    clear UA
    have UA := UAq
    clear UAq
    have R1q := Lib.hid (R1.out.next hb)
    clear R1
    have R1 := R1q
    clear R1q
    have R2q := Lib.hid (R2.out.next hb)
    clear R2
    have R2 := R2q
    clear R2q
    clear hb
    go_wp2_with fail
    refine (refBonus_any A n c l who _ UA.out (by have := HM2.out; omega)).mono ?_
    rintro e w6 ⟨rfl, hb⟩
    have HBq := Lib.hid (HB.out.trans (hb.mono HB.out.size))
    clear HB
    have HB := HBq
    clear HBq
    have UAq := Lib.hid (UA.out.next hb)
    clear UA
    have UA := UAq
    clear UAq
    have R1q := Lib.hid (R1.out.next hb)
    clear R1
    have R1 := R1q
    clear R1q
    have R2q := Lib.hid (R2.out.next hb)
    clear R2
    have R2 := R2q
    clear R2q
    clear hb
    go_wp2
    go_ret
    exact ⟨rfl, HB.out⟩

  · have UA := Lib.hid (hl.take (k := 60) (by omega))
    have HM2 : Hid (60 ≤ 60) := Lib.hid (Nat.le_refl _)
    obtain ⟨lm, hlm⟩ : ∃ lm, l.take 60 = lm := ⟨_, rfl⟩
    rw [hlm] at UA
    obtain ⟨o, ho⟩ : ∃ o, orderU lm = o := ⟨_, rfl⟩
    have HO := Lib.hid ho
    have HOL : Hid (o.length = 60) := Lib.hid (by rw [← ho, orderU_length, UA.out.len])
    clear hw hl ho hlm
    go_enter Try.func4, Try.ntmps4
    go_wp2_with fail
    refine (shareAwake H w).mono ?_
    rintro e w1 ⟨rfl, hb⟩
    have HBq := Lib.hid (HB.out.trans (hb.mono HB.out.size))
    clear HB
    have HB := HBq
    clear HBq
    have UAq := Lib.hid (UA.out.next hb)
    clear UA
    have UA := UAq
    clear UAq
    clear hb
    go_wp2_with fail
    refine (s15_o (H.order A 60 c lm w1 UA.out (by have := HM2.out; omega)) HO.out).mono ?_
    rintro e w2 ⟨⟨A1, c1, rfl, hr1, hn1, hc1⟩, hb⟩
    rw [HOL.out] at hr1 ⊢
    have HBq := Lib.hid (HB.out.trans (hb.mono HB.out.size))
    clear HB
    have HB := HBq
    clear HBq
    have UAq := Lib.hid (UA.out.next hb)
    clear UA
    have UA := UAq
    clear UAq
    clear hb
    have R1 := Lib.hid hr1
    clear hr1
    clear hn1 hc1
    go_wp2_with fail
    refine (s15_o (refOrder_any A 60 c lm w2 UA.out (by have := HM2.out; omega)) HO.out).mono ?_
    rintro e w3 ⟨⟨A2, c2, rfl, hr2, hn2, hc2⟩, hb⟩
    rw [HOL.out] at hr2 ⊢
    have HBq := Lib.hid (HB.out.trans (hb.mono HB.out.size))
    clear HB
    have HB := HBq
    clear HBq
    have UAq := Lib.hid (UA.out.next hb)
    clear UA
    have UA := UAq
    clear UAq
    have R1q := Lib.hid (R1.out.next hb)
    clear R1
    have R1 := R1q
    clear R1q
    clear hb
    have R2 := Lib.hid hr2
    clear hr2
    clear hn2 hc2
    have es : sameB o o = true := sameB_iff.2 rfl
    go_wp2_with fail
    refine (same_any _ _ _ _ _ _ _ _ _ _ _ R1.out R2.out (by have := HM2.out; unfold maxLen; omega) (by have := HM2.out; unfold maxLen; omega)).mono ?_
    rintro e w4 ⟨rfl, q, rfl⟩
    have hb := bel_drew w3 q
    have HBq := Lib.hid (HB.out.trans (hb.mono HB.out.size))
    clear HB
    have HB := HBq
    clear HBq
    have UAq := Lib.hid (UA.out.next hb)
    clear UA
    have UA := UAq
    clear UAq
    have R1q := Lib.hid (R1.out.next hb)
    clear R1
    have R1 := R1q
    clear R1q
    have R2q := Lib.hid (R2.out.next hb)
    clear R2
    have R2 := R2q
    clear R2q
    clear hb
    go_wp2_with fail
    refine (H.bonus A 60 c lm who _ UA.out HW.out (by have := HM2.out; omega)).mono ?_
    rintro e w5 ⟨rfl, hb⟩
    have HBq := Lib.hid (HB.out.trans (hb.mono HB.out.size))
    clear HB
    have HB := HBq
    clear HBq
    have UAq := Lib.hid (UA.out.next hb)
    clear UA
    have UA := UAq
    clear UAq
    have R1q := Lib.hid (R1.out.next hb)
    clear R1
    have R1 := R1q
    clear R1q
    have R2q := Lib.hid (R2.out.next hb)
    clear R2
    have R2 := R2q
    clear R2q
    clear hb
    go_wp2_with fail
    refine (refBonus_any A 60 c lm who _ UA.out (by have := HM2.out; omega)).mono ?_
    rintro e w6 ⟨rfl, hb⟩
    have HBq := Lib.hid (HB.out.trans (hb.mono HB.out.size))
    clear HB
    have HB := HBq
    clear HBq
    have UAq := Lib.hid (UA.out.next hb)
    clear UA
    have UA := UAq
    clear UAq
    have R1q := Lib.hid (R1.out.next hb)
    clear R1
    have R1 := R1q
    clear R1q
    have R2q := Lib.hid (R2.out.next hb)
    clear R2
    have R2 := R2q
    clear R2q
    clear hb
    go_wp2
    go_ret
    exact ⟨rfl, HB.out⟩


end Go.Proofs.Ytaehhafdodoljaa
