/- PickKeeps of layer 14, as a walk over the contracts. Written by gen/gen_pick.py. -/
import Derived.Deep.QuietTactic
import Derived.Deep.RegionHeld3
import Derived.LoopTactic
import Derived.Test.YtchogijdkagiiaaGreatDoorMg08
import Derived.Test.YtchogijdkagiiaaGreatDoorMg05
import Derived.Test.YtchogijdkagiiaaGreatDoorMg04
namespace Go.Proofs.YtchogijdkagiiaaGreatDoor
open Go.RowKit

set_option maxRecDepth 100000 in
set_option maxHeartbeats 8000000 in
theorem pickKeeps_no (H : PickOk) (A : Option Addr) (n c : Nat) (_g : Gr) (A2 : Option Addr) (n2 c2 : Nat) (_use : List Int) (A3 : Option Addr) (n3 c3 : Nat) (l : Tb) (A4 : Option Addr) (n4 c4 : Nat) (t u vd : Int) (w : World) (hl : TAsk w A3 n3 c3 l) (hs : decide (SmallS n n2 n3 l n4) = false) (hG : Glob w) : Calls Tryz.prog 6 #[.slice A n c, .slice A2 n2 c2, .slice A3 n3 c3, .slice A4 n4 c4, .int .i64 t, .int .i64 u, .int .u8 vd] w fun e w' => e = .returned (.bool true) ∧ Below w.heap.size w w' := by
  have HB := Lib.hid (Below.refl w.heap.size w)
  have HG := Lib.hid hG
  have TA := Lib.hid hl
  have HSM := Lib.hid hs
  clear hG hl hs
  go_enter Tryz.func6, Tryz.ntmps6
  go_wp2_with fail
  refine (awake14_any H _ HG.out).mono ?_
  rintro e w1 ⟨rfl, hb⟩
  replace HB := Lib.hid (HB.out.trans (hb.mono HB.out.size))
  replace HG := Lib.hid (HG.out.next hb)
  replace TA := Lib.hid (TA.out.next hb)
  clear hb
  go_wp2_with fail
  refine (smallP_b TA.out HSM.out).mono ?_
  rintro e w2 ⟨rfl, hb⟩
  replace HB := Lib.hid (HB.out.trans (hb.mono HB.out.size))
  replace HG := Lib.hid (HG.out.next hb)
  replace TA := Lib.hid (TA.out.next hb)
  clear hb
  go_wp2
  go_ret
  exact ⟨rfl, HB.out⟩
set_option maxRecDepth 100000 in
set_option maxHeartbeats 8000000 in
theorem pickKeeps_yes (H : PickOk) (HD : HeldOk) {A : Option Addr} {n c : Nat} {g : Gr} {A2 : Option Addr} {n2 c2 : Nat} {use : List Int} {A3 : Option Addr} {n3 c3 : Nat} {l : Tb} {A4 : Option Addr} {n4 c4 : Nat} {ws : List Wn} {t u vd dq : Int} {w : World} (hg : GAsk w A n c g) (hu : LAsk w A2 n2 c2 use) (hl : TAsk w A3 n3 c3 l) (hf : FewT l) (hw : WnAsk w A4 n4 c4 ws) (ht : I64 t) (hv : I64 u) (_hvd1 : 0 ≤ vd) (_hvd2 : vd < 256) (hdd : Int.tmod vd 9 = dq) (hdd1 : 0 ≤ dq) (hdd2 : dq ≤ 8) (hsm : decide (SmallS n n2 n3 l n4) = true) (hG : Glob w) : Calls Tryz.prog 6 #[.slice A n c, .slice A2 n2 c2, .slice A3 n3 c3, .slice A4 n4 c4, .int .i64 t, .int .i64 u, .int .u8 vd] w fun e w' => e = .returned (.bool true) ∧ Below w.heap.size w w' := by
  have HB := Lib.hid (Below.refl w.heap.size w)
  have HG := Lib.hid hG
  have GA := Lib.hid hg
  have UA := Lib.hid hu
  have TA := Lib.hid hl
  have WA := Lib.hid hw
  have HF := Lib.hid hf
  have HT := Lib.hid ht
  have HV := Lib.hid hv
  have HSM := Lib.hid hsm
  have hsp := of_decide_eq_true hsm
  unfold SmallS at hsp
  have HN60 : Hid (n ≤ 60) := Lib.hid (by omega)
  have HN61 : Hid (n3 + n4 ≤ 60) := Lib.hid (by omega)
  have hwl : ws.length ≤ 8 := by rw [hw.len]; omega
  have HWL8 := Lib.hid hwl
  have HTL := Lib.hid hl.reads.len
  have HQI : Hid (I64 dq) := Lib.hid (by unfold I64; omega)
  have h312 : n3 ≤ 12 := by omega
  have HULM : Hid (n2 ≤ maxLen) := Lib.hid (Nat.le_trans hu.few (by decide))
  have HTH : Hid (∀ P y, y ∈ (pickA g use l ws t u P dq).1 → y.things.length ≤ 100) := Lib.hid (fun P y hy => by
    have h1 := @pickA_things g use ws t u P dq l y (.inl hy)
    have h2 := hg.reads.1
    omega)
  clear hG hg hu hl hf hw ht hv hsm hsp hwl
  go_enter Tryz.func6, Tryz.ntmps6
  go_wp2_with fail
  refine (awake14_any H _ HG.out).mono ?_
  rintro e w1 ⟨rfl, hb⟩
  replace HB := Lib.hid (HB.out.trans (hb.mono HB.out.size))
  replace HG := Lib.hid (HG.out.next hb)
  replace GA := Lib.hid (GA.out.next hb)
  replace UA := Lib.hid (UA.out.next hb)
  replace TA := Lib.hid (TA.out.next hb)
  replace WA := Lib.hid (WA.out.next hb)
  clear hb
  go_wp2_with fail
  refine (smallP_b TA.out HSM.out).mono ?_
  rintro e w2 ⟨rfl, hb⟩
  replace HB := Lib.hid (HB.out.trans (hb.mono HB.out.size))
  replace HG := Lib.hid (HG.out.next hb)
  replace GA := Lib.hid (GA.out.next hb)
  replace UA := Lib.hid (UA.out.next hb)
  replace TA := Lib.hid (TA.out.next hb)
  replace WA := Lib.hid (WA.out.next hb)
  clear hb
  go_wp2
  go_loopw [15] (fun iv wx => ∃ P : Int, 2 ≤ P ∧ P ≤ 4 ∧ iv = .int .i64 P ∧ Below w2.heap.size w2 wx) (fun iv _ => 4 - (intOf iv).toNat)
  case atStart => exact ⟨2, by omega, by omega, rfl, Below.refl _ _⟩
  case round =>
    obtain ⟨P, hP2, hP4, rfl, hb⟩ := hrel
    have HBO := Lib.hid hb
    replace HG := Lib.hid (HG.out.next hb)
    replace GA := Lib.hid (GA.out.next hb)
    replace UA := Lib.hid (UA.out.next hb)
    replace TA := Lib.hid (TA.out.next hb)
    replace WA := Lib.hid (WA.out.next hb)
    replace HB := Lib.hid (HB.out.trans (hb.mono HB.out.size))
    clear hb
    by_cases hP3 : P ≤ 3
    · have dP : decide (P ≤ 3) = true := decide_eq_true hP3
      have HPI : Hid (I64 P) := Lib.hid (by unfold I64; omega)
      have hwl := HWL8.out
      obtain ⟨B, j3⟩ : ∃ x, (pickA g use l ws t u P dq).1 = x := ⟨_, rfl⟩
      obtain ⟨K, i3⟩ : ∃ x, (pickA g use l ws t u P dq).2.1 = x := ⟨_, rfl⟩
      obtain ⟨ea, g3⟩ : ∃ x, (pickA g use l ws t u P dq).2.2 = x := ⟨_, rfl⟩
      have P3 : Hid (pickA g use l ws t u P dq = (B, K, ea)) := Lib.hid (by rw [← j3, ← i3, ← g3])
      have L3 : Hid (B.length + K.length ≤ 8) := Lib.hid (by have := @pickA_len g use ws t u P dq l; rw [j3, i3] at this; omega)
      have M3 : Hid (B.length ≤ maxLen ∧ K.length ≤ maxLen) := Lib.hid (by have := L3.out; unfold maxLen; omega)
      have HINV : Hid (ea = 0 → RightT l ∧ ∃ tab, PickInv g use ws t u P dq l tab B K) := Lib.hid (fun h => by
        have h1 := pickA_inv (g := g) (use := use) (l := l) (ws := ws) (now := t) (u := u) (policy := P) (depth := dq) (by rw [g3]; exact h)
        rw [j3, i3] at h1
        exact ⟨rightT_is.1 h1.1.2.2.2, h1.2⟩)
      have HBT : Hid (∀ y ∈ B, y.things.length ≤ 100) := Lib.hid (fun y hy => HTH.out P y (by rw [j3]; exact hy))
      clear hwl j3 i3 g3
      go_wp2_with fail
      refine (p14_pick H GA.out UA.out TA.out HF.out WA.out HN60.out HN61.out HT.out HV.out HPI.out HQI.out HG.out P3.out).mono ?_
      rintro e w3 ⟨⟨A31, c31, A32, c32, rfl, ⟨hr3, hn3, hc3⟩, ⟨kr3, kn3, kc3⟩⟩, hb⟩
      replace HB := Lib.hid (HB.out.trans (hb.mono HB.out.size))
      replace HBO := Lib.hid (HBO.out.trans (hb.mono HBO.out.size))
      replace HG := Lib.hid (HG.out.next hb)
      replace GA := Lib.hid (GA.out.next hb)
      replace UA := Lib.hid (UA.out.next hb)
      replace TA := Lib.hid (TA.out.next hb)
      replace WA := Lib.hid (WA.out.next hb)
      clear hb
      have RA := Lib.hid (ans_ask hr3 hn3 hc3 M3.out.1)
      have RB := Lib.hid (ans_ask kr3 kn3 kc3 M3.out.2)
      clear hr3 hn3 hc3 kr3 kn3 kc3
      obtain ⟨mB, hmB⟩ : ∃ mB, B.length = mB := ⟨_, rfl⟩
      obtain ⟨mK, hmK⟩ : ∃ mK, K.length = mK := ⟨_, rfl⟩
      have HMB := Lib.hid hmB
      have HMK := Lib.hid hmK
      have hm8 : mB + mK ≤ 8 := by have := L3.out; omega
      rw [hmB] at RA ⊢
      rw [hmK] at RB ⊢
      clear hmB hmK
      by_cases h0 : ea = 0
      · have d0 : (ea != 0) = false := by rw [h0]; rfl
        obtain ⟨hrl, tab, hI⟩ := HINV.out h0
        have HKEP := Lib.hid hI.keps
        have HAPK : Hid (∀ y ∈ K, apartB y.things (busyT (allT l B) y.frm y.to) = true) := Lib.hid (fun y hy => kep_apart hI hrl (by rw [HTL.out, HMB.out]; omega) hy)
        have HKP : Hid (∀ i j, i < mK → j < mK → i ≠ j → (K.getD i hd0).frm < (K.getD j hd0).to → (K.getD j hd0).frm < (K.getD i hd0).to → apartB (K.getD i hd0).things (K.getD j hd0).things = true) := Lib.hid (fun i j h1 h2 h3 h4 h5 => kep_pair hI (by rw [HMK.out]; exact h1) (by rw [HMK.out]; exact h2) h3 h4 h5)
        have HLIM : Hid ((P = 2 → mK ≤ 1) ∧ (P = 3 → (mK : Int) ≤ dq)) := Lib.hid (by
          have h1 := hI.lim.2
          rw [HMK.out] at h1; exact h1)
        have HN100 : Hid (n3 + mB ≤ 100) := Lib.hid (by omega)
        clear hI hrl h0
        go_wp2_with fail
        refine (allP_any HD _ _ _ _ _ _ _ _ _ TA.out HF.out RA.out HBT.out HN100.out).mono ?_
        rintro e w4 ⟨⟨A7, n7, c7, rfl, hta, hfa, hla⟩, hb⟩
        replace HB := Lib.hid (HB.out.trans (hb.mono HB.out.size))
        replace HBO := Lib.hid (HBO.out.trans (hb.mono HBO.out.size))
        replace HG := Lib.hid (HG.out.next hb)
        replace GA := Lib.hid (GA.out.next hb)
        replace UA := Lib.hid (UA.out.next hb)
        replace TA := Lib.hid (TA.out.next hb)
        replace WA := Lib.hid (WA.out.next hb)
        replace RA := Lib.hid (RA.out.next hb)
        replace RB := Lib.hid (RB.out.next hb)
        clear hb
        have TB7 := Lib.hid hta
        have F7 := Lib.hid hfa
        clear hta hfa hla
        go_wp2
        go_loopw [20] (fun iv wx => ∃ i : Nat, i ≤ mK ∧ iv = .int .i64 i ∧ Below w4.heap.size w4 wx) (fun iv _ => mK - (intOf iv).toNat)
        case atStart => exact ⟨0, Nat.zero_le _, rfl, Below.refl _ _⟩
        case round =>
          obtain ⟨i, hi, rfl, hb⟩ := hrel
          have HBM := Lib.hid hb
          replace HG := Lib.hid (HG.out.next hb)
          replace GA := Lib.hid (GA.out.next hb)
          replace UA := Lib.hid (UA.out.next hb)
          replace TA := Lib.hid (TA.out.next hb)
          replace WA := Lib.hid (WA.out.next hb)
          replace RB := Lib.hid (RB.out.next hb)
          replace TB7 := Lib.hid (TB7.out.next hb)
          replace HB := Lib.hid (HB.out.trans (hb.mono HB.out.size))
          replace HBO := Lib.hid (HBO.out.trans (hb.mono HBO.out.size))
          clear hb
          by_cases hlt : i < mK
          · obtain ⟨b6, off6, A6, m6, c6, hA6, hb6, f0, f1, f2, f3, hh⟩ := RB.out.reads.one hlt
            subst hA6
            obtain ⟨y, hy⟩ : ∃ y, K.getD i hd0 = y := ⟨_, rfl⟩
            have hyK : y ∈ K := by rw [← hy]; exact getD_in (by rw [HMK.out]; exact hlt)
            rw [hy] at f0 f2 f3 hh
            have HYK := Lib.hid hy
            have HH := Lib.hid hh
            have HNS := Lib.hid (HKEP.out y hyK)
            have HPT := Lib.hid (HNS.out.2.part)
            have HAP0 := Lib.hid (HAPK.out y hyK)
            obtain ⟨bl, hbl⟩ : ∃ r, busyT (allT l B) y.frm y.to = r := ⟨_, rfl⟩
            have HBF : Hid (bl.length ≤ maxLen) := Lib.hid (by rw [← hbl]; exact Nat.le_trans (busy_len _ _ _) (by decide))
            have HBU := Lib.hid hbl
            have HAP : Hid (apartB y.things bl = true) := Lib.hid (by rw [← hbl]; exact HAP0.out)
            clear hy hyK hh hbl HAP0
            have hba : Below wr.heap.size wr (wr.alloc (.cells #[.int .i64 y.id, .slice A6 m6 c6, .int .i64 y.frm, .int .i64 y.to] 41)) := (Below.refl _ _).alloc (Nat.le_refl _) _
            have BX0 : Hid (BoxH (wr.alloc (.cells #[.int .i64 y.id, .slice A6 m6 c6, .int .i64 y.frm, .int .i64 y.to] 41)) wr.heap.size y A6 m6 c6) := Lib.hid (boxH_new wr y A6 m6 c6)
            obtain ⟨g6, hg6⟩ : ∃ g6, wr.heap.size = g6 := ⟨_, rfl⟩
            have BX := BX0
            clear BX0
            go_wp2_with fail
            replace HG := Lib.hid (HG.out.next hba)
            replace GA := Lib.hid (GA.out.next hba)
            replace UA := Lib.hid (UA.out.next hba)
            replace TA := Lib.hid (TA.out.next hba)
            replace WA := Lib.hid (WA.out.next hba)
            replace RB := Lib.hid (RB.out.next hba)
            replace TB7 := Lib.hid (TB7.out.next hba)
            replace HH := Lib.hid (HH.out.next hba)
            replace HB := Lib.hid (HB.out.trans (hba.mono HB.out.size))
            replace HBO := Lib.hid (HBO.out.trans (hba.mono HBO.out.size))
            replace HBM := Lib.hid (HBM.out.trans (hba.mono HBM.out.size))
            clear hba f0 f1 f2 f3 hb6
            go_loopw [22] (fun jv wi => ∃ j : Nat, j ≤ mK ∧ jv = .int .i64 j ∧ Below (wr.alloc (.cells #[.int .i64 y.id, .slice A6 m6 c6, .int .i64 y.frm, .int .i64 y.to] 41)).heap.size (wr.alloc (.cells #[.int .i64 y.id, .slice A6 m6 c6, .int .i64 y.frm, .int .i64 y.to] 41)) wi) (fun jv _ => mK - (intOf jv).toNat)
            case atStart => exact ⟨0, Nat.zero_le _, rfl, Below.refl _ _⟩
            case round =>
              obtain ⟨j, hj, rfl, hb⟩ := hrel
              have HBI := Lib.hid hb
              replace HG := Lib.hid (HG.out.next hb)
              replace GA := Lib.hid (GA.out.next hb)
              replace UA := Lib.hid (UA.out.next hb)
              replace TA := Lib.hid (TA.out.next hb)
              replace WA := Lib.hid (WA.out.next hb)
              replace RB := Lib.hid (RB.out.next hb)
              replace TB7 := Lib.hid (TB7.out.next hb)
              replace HH := Lib.hid (HH.out.next hb)
              replace BX := Lib.hid (BX.out.next hb)
              replace HB := Lib.hid (HB.out.trans (hb.mono HB.out.size))
              replace HBO := Lib.hid (HBO.out.trans (hb.mono HBO.out.size))
              replace HBM := Lib.hid (HBM.out.trans (hb.mono HBM.out.size))
              rw [hg6] at BX
              clear hb
              by_cases hjlt : j < mK
              · obtain ⟨b7, off7, A8, m8, c8, hA7, hb7, k0, k1, k2, k3, hz⟩ := RB.out.reads.one hjlt
                injection hA7 with hA7
                injection hA7 with hB7 hO7 _
                subst hB7 hO7
                obtain ⟨z, hzz⟩ : ∃ z, K.getD j hd0 = z := ⟨_, rfl⟩
                rw [hzz] at k0 k2 k3 hz
                have HZ := Lib.hid hz
                have HP2 : Hid (j ≠ i → y.frm < z.to → z.frm < y.to → apartB y.things z.things = true) := Lib.hid (fun h1 h2 h3 => by
                  have h4 := HKP.out i j hlt hjlt (fun e => h1 e.symm)
                  rw [HYK.out, hzz] at h4
                  exact h4 h2 h3)
                clear hz hzz
                by_cases p0 : j = i
                · have d0 : ((j : Int) != (i : Int)) = false := by rw [p0]; simp
                  clear p0
                  go_wp2_with fail
                  refine wp_region_later (by kernel_rfl) (by kernel_rfl) ?_
                  repeat (first | go_big_quiet_skip | (go_big_quiet_want; go_big_quiet_op; first | go_big_quiet_on | (apply Exists.intro; refine ⟨fun pz => ?_, ?_⟩; (fail); go_big_quiet_on)))
                  refine wpQuiet_nil ?_
                  intro _ hw'
                  obtain ⟨pz, rfl⟩ := hw'
                  obtain ⟨w11, hb⟩ := pz
                  try dsimp only
                  replace HBI := Lib.hid (HBI.out.trans (hb.mono HBI.out.size))
                  clear hb
                  clear k0 k1 k2 k3 hb7
                  go_wp2_with fail
                  go_roundw
                  case rel => exact ⟨j + 1, by omega, by go_num, HBI.out⟩
                  case measure => simp [intOf] <;> omega
                · have d0 : ((j : Int) != (i : Int)) = true := bne_iff_ne.2 (by omega)
                  by_cases p1 : y.frm < z.to
                  · have d1 : decide (y.frm < z.to) = true := decide_eq_true p1
                    by_cases p2 : z.frm < y.to
                    · have d2 : decide (z.frm < y.to) = true := decide_eq_true p2
                      have HAP2 := Lib.hid (HP2.out p0 p1 p2)
                      clear p0 p1 p2
                      go_wp2_with fail
                      have zc0 : ∀ p : Later wr, p.now.cell? ⟨g6, 1, none⟩ = some (.slice A6 m6 c6) := fun _ => Later.cell BX.out.lt BX.out.c1
                      have zc1 : ∀ p : Later wr, p.now.cell? ⟨g6, 2, none⟩ = some (.int .i64 y.frm) := fun _ => Later.cell BX.out.lt BX.out.c2
                      have zc2 : ∀ p : Later wr, p.now.cell? ⟨g6, 3, none⟩ = some (.int .i64 y.to) := fun _ => Later.cell BX.out.lt BX.out.c3
                      have zc3 : ∀ p : Later wr, p.now.cell? ⟨b6, off6 + j * 4 + 1, none⟩ = some (.slice A8 m8 c8) := fun _ => Later.cell hb7 k1
                      have zc4 : ∀ p : Later wr, p.now.cell? ⟨b6, off6 + j * 4 + 2, none⟩ = some (.int .i64 z.frm) := fun _ => Later.cell hb7 k2
                      have zc5 : ∀ p : Later wr, p.now.cell? ⟨b6, off6 + j * 4 + 3, none⟩ = some (.int .i64 z.to) := fun _ => Later.cell hb7 k3
                      refine wp_region_later (by kernel_rfl) (by kernel_rfl) ?_
                      repeat (first | go_big_quiet_skip | (go_big_quiet_want; go_big_quiet_op; first | go_big_quiet_on | (apply Exists.intro; refine ⟨fun pz => ?_, ?_⟩; (first | (go_at_call 20; exact Calls.later_of (s_apart (HH.out.next pz.bel).reads (HZ.out.next pz.bel).reads (HH.out.next pz.bel).few (HZ.out.next pz.bel).few HAP2.out)) | fail); go_big_quiet_on)))
                      refine wpQuiet_nil ?_
                      intro _ hw'
                      obtain ⟨pz, rfl⟩ := hw'
                      obtain ⟨w11, hb⟩ := pz
                      try dsimp only
                      clear zc0 zc1 zc2 zc3 zc4 zc5
                      replace HBI := Lib.hid (HBI.out.trans (hb.mono HBI.out.size))
                      replace HH := Lib.hid (HH.out.next hb)
                      replace HZ := Lib.hid (HZ.out.next hb)
                      clear hb
                      clear k0 k1 k2 k3 hb7
                      go_wp2_with fail
                      go_roundw
                      case rel => exact ⟨j + 1, by omega, by go_num, HBI.out⟩
                      case measure => simp [intOf] <;> omega
                    · have d2 : decide (z.frm < y.to) = false := decide_eq_false p2
                      clear p0 p1 p2
                      go_wp2_with fail
                      have zc0 : ∀ p : Later wr, p.now.cell? ⟨g6, 2, none⟩ = some (.int .i64 y.frm) := fun _ => Later.cell BX.out.lt BX.out.c2
                      have zc1 : ∀ p : Later wr, p.now.cell? ⟨g6, 3, none⟩ = some (.int .i64 y.to) := fun _ => Later.cell BX.out.lt BX.out.c3
                      have zc2 : ∀ p : Later wr, p.now.cell? ⟨b6, off6 + j * 4 + 2, none⟩ = some (.int .i64 z.frm) := fun _ => Later.cell hb7 k2
                      have zc3 : ∀ p : Later wr, p.now.cell? ⟨b6, off6 + j * 4 + 3, none⟩ = some (.int .i64 z.to) := fun _ => Later.cell hb7 k3
                      refine wp_region_later (by kernel_rfl) (by kernel_rfl) ?_
                      repeat (first | go_big_quiet_skip | (go_big_quiet_want; go_big_quiet_op; first | go_big_quiet_on | (apply Exists.intro; refine ⟨fun pz => ?_, ?_⟩; (fail); go_big_quiet_on)))
                      refine wpQuiet_nil ?_
                      intro _ hw'
                      obtain ⟨pz, rfl⟩ := hw'
                      obtain ⟨w11, hb⟩ := pz
                      try dsimp only
                      clear zc0 zc1 zc2 zc3
                      replace HBI := Lib.hid (HBI.out.trans (hb.mono HBI.out.size))
                      clear hb
                      clear k0 k1 k2 k3 hb7
                      go_wp2_with fail
                      go_roundw
                      case rel => exact ⟨j + 1, by omega, by go_num, HBI.out⟩
                      case measure => simp [intOf] <;> omega
                  · have d1 : decide (y.frm < z.to) = false := decide_eq_false p1
                    clear p0 p1
                    go_wp2_with fail
                    have zc0 : ∀ p : Later wr, p.now.cell? ⟨g6, 2, none⟩ = some (.int .i64 y.frm) := fun _ => Later.cell BX.out.lt BX.out.c2
                    have zc1 : ∀ p : Later wr, p.now.cell? ⟨b6, off6 + j * 4 + 3, none⟩ = some (.int .i64 z.to) := fun _ => Later.cell hb7 k3
                    refine wp_region_later (by kernel_rfl) (by kernel_rfl) ?_
                    repeat (first | go_big_quiet_skip | (go_big_quiet_want; go_big_quiet_op; first | go_big_quiet_on | (apply Exists.intro; refine ⟨fun pz => ?_, ?_⟩; (fail); go_big_quiet_on)))
                    refine wpQuiet_nil ?_
                    intro _ hw'
                    obtain ⟨pz, rfl⟩ := hw'
                    obtain ⟨w11, hb⟩ := pz
                    try dsimp only
                    clear zc0 zc1
                    replace HBI := Lib.hid (HBI.out.trans (hb.mono HBI.out.size))
                    clear hb
                    clear k0 k1 k2 k3 hb7
                    go_wp2_with fail
                    go_roundw
                    case rel => exact ⟨j + 1, by omega, by go_num, HBI.out⟩
                    case measure => simp [intOf] <;> omega
              · have d2 : decide (u < y.to) = false := decide_eq_false (by have := HNS.out.2.over; omega)
                have d3 : decide (y.frm ≤ t) = false := decide_eq_false (by have := HNS.out.1; omega)
                go_wp2_with fail
                have HKEEP : Hid (∀ wx, Below wr.drew.heap.size wr.drew wx → wx.cell? ⟨g6, 1, none⟩ = some (.slice A6 m6 c6) ∧ wx.cell? ⟨g6, 2, none⟩ = some (.int .i64 y.frm) ∧ wx.cell? ⟨g6, 3, none⟩ = some (.int .i64 y.to)) := Lib.hid (fun wx hz' => by
                  have hz := (bel_drew1 wr).trans (hz'.mono (bel_drew1 wr).size)
                  exact ⟨keep_cell BX.out.lt BX.out.c1 hz, keep_cell BX.out.lt BX.out.c2 hz, keep_cell BX.out.lt BX.out.c3 hz⟩)
                have hd := bel_drew1 wr
                replace HB := Lib.hid (HB.out.trans (hd.mono HB.out.size))
                replace HBO := Lib.hid (HBO.out.trans (hd.mono HBO.out.size))
                replace HBM := Lib.hid (HBM.out.trans (hd.mono HBM.out.size))
                replace HG := Lib.hid (HG.out.next hd)
                replace UA := Lib.hid (UA.out.next hd)
                replace TB7 := Lib.hid (TB7.out.next hd)
                replace HH := Lib.hid (HH.out.next hd)
                clear hd
                have HY := Lib.hid (Below.refl wr.drew.heap.size wr.drew)
                go_region_held3 (fun w' => w'.cell? ⟨g6, 1, none⟩ = some (.slice A6 m6 c6) ∧ w'.cell? ⟨g6, 2, none⟩ = some (.int .i64 y.frm) ∧ w'.cell? ⟨g6, 3, none⟩ = some (.int .i64 y.to))
                  (first | exact HKEEP.out _ (Below.refl _ _) | exact HKEEP.out _ HY.out | exact HKEEP.out _ (HY.out.alloc HY.out.size _) | go_keep | fail)
                  (first | (go_at_call 19; (with_reducible refine (s_part HH.out.reads UA.out.reads HH.out.few HULM.out HPT.out).mono ?_); rintro e w21 ⟨rfl, hb⟩; have HY := Lib.hid (HY.out.trans (hb.mono HY.out.size)); have HB := Lib.hid (HB.out.trans (hb.mono HB.out.size)); have HBO := Lib.hid (HBO.out.trans (hb.mono HBO.out.size)); have HBM := Lib.hid (HBM.out.trans (hb.mono HBM.out.size)); have HG := Lib.hid (HG.out.next hb); have UA := Lib.hid (UA.out.next hb); have TB7 := Lib.hid (TB7.out.next hb); have HH := Lib.hid (HH.out.next hb); clear hb) | (go_at_call 21; (with_reducible refine (h10_busy HD TB7.out F7.out HBU.out).mono ?_); rintro e w22 ⟨⟨A10, c10, rfl, hr10, _, _⟩, hb⟩; have HY := Lib.hid (HY.out.trans (hb.mono HY.out.size)); have HB := Lib.hid (HB.out.trans (hb.mono HB.out.size)); have HBO := Lib.hid (HBO.out.trans (hb.mono HBO.out.size)); have HBM := Lib.hid (HBM.out.trans (hb.mono HBM.out.size)); have HG := Lib.hid (HG.out.next hb); have UA := Lib.hid (UA.out.next hb); have TB7 := Lib.hid (TB7.out.next hb); have HH := Lib.hid (HH.out.next hb); have B10 := Lib.hid hr10; clear hb) | (go_at_call 20; (with_reducible refine (s_apart HH.out.reads B10.out HH.out.few HBF.out HAP.out).mono ?_); rintro e w23 ⟨rfl, hb⟩; have HY := Lib.hid (HY.out.trans (hb.mono HY.out.size)); have HB := Lib.hid (HB.out.trans (hb.mono HB.out.size)); have HBO := Lib.hid (HBO.out.trans (hb.mono HBO.out.size)); have HBM := Lib.hid (HBM.out.trans (hb.mono HBM.out.size)); have HG := Lib.hid (HG.out.next hb); have UA := Lib.hid (UA.out.next hb); have TB7 := Lib.hid (TB7.out.next hb); have HH := Lib.hid (HH.out.next hb); have B10 := Lib.hid (B10.out.next hb); clear hb) | fail)
                clear HKEEP HY
                go_wp2_with fail
                go_roundw
                case rel => exact ⟨i + 1, by omega, by go_num, HBM.out⟩
                case measure => simp [intOf] <;> omega
          · by_cases hp2 : P = 2
            · have d2 : (P == 2) = true := beq_iff_eq.2 hp2
              have d3 : (P == 3) = false := beq_eq_false_iff_ne.2 (by omega)
              have dk1 : decide (1 < mK) = false := decide_eq_false (by have := HLIM.out.1 hp2; omega)
              have dk2 : decide ((1 : Int) < (mK : Int)) = false := decide_eq_false (by have := HLIM.out.1 hp2; omega)
              clear hp2
              go_wp2
              go_roundw
              case rel => exact ⟨P + 1, by omega, by omega, by go_num, HBO.out⟩
              case measure => simp [intOf] <;> omega
            · have d2 : (P == 2) = false := beq_eq_false_iff_ne.2 hp2
              have d3 : (P == 3) = true := beq_iff_eq.2 (by omega)
              have dk2 : decide (dq < (mK : Int)) = false := decide_eq_false (by have := HLIM.out.2 (by omega); omega)
              clear hp2
              go_wp2
              go_roundw
              case rel => exact ⟨P + 1, by omega, by omega, by go_num, HBO.out⟩
              case measure => simp [intOf] <;> omega
      · have d0 : (ea != 0) = true := bne_iff_ne.2 h0
        clear h0
        go_wp2
        go_roundw
        case rel => exact ⟨P + 1, by omega, by omega, by go_num, HBO.out⟩
        case measure => simp [intOf] <;> omega
    · have dP : decide (P ≤ 3) = false := decide_eq_false hP3
      go_wp2
      go_ret
      exact ⟨rfl, HB.out⟩
theorem pickKeeps_walk (H : PickOk) (HD : HeldOk) (A : Option Addr) (n c : Nat) (g : Gr) (A2 : Option Addr) (n2 c2 : Nat) (use : List Int) (A3 : Option Addr) (n3 c3 : Nat) (l : Tb) (A4 : Option Addr) (n4 c4 : Nat) (ws : List Wn) (t u vd : Int) (w : World) (hr : RG w w.heap.size A n g) (hnil : A = none → c = 0) (hnc : n ≤ c) (_hn : n ≤ maxLen) (hr2 : RI w w.heap.size A2 n2 use) (hj2 : ∀ x ∈ use, I64 x) (hnil2 : A2 = none → c2 = 0) (hnc2 : n2 ≤ c2) (_hn2 : n2 ≤ maxLen) (hl : TAsk w A3 n3 c3 l) (hw : WnAsk w A4 n4 c4 ws) (ht : I64 t) (hv : I64 u) (hvd : 0 ≤ vd ∧ vd < 256) (hG : Glob w) : Calls Tryz.prog 6 #[.slice A n c, .slice A2 n2 c2, .slice A3 n3 c3, .slice A4 n4 c4, .int .i64 t, .int .i64 u, .int .u8 vd] w fun e w' => e = .returned (.bool true) ∧ Below w.heap.size w w' := by
  cases hsm : decide (SmallS n n2 n3 l n4) with
  | false => exact pickKeeps_no H A n c g A2 n2 c2 use A3 n3 c3 l A4 n4 c4 t u vd w hl hsm hG
  | true =>
    have h := of_decide_eq_true hsm
    unfold SmallS at h
    have hd9 : 0 ≤ Int.tmod vd 9 ∧ Int.tmod vd 9 ≤ 8 := by rw [Int.tmod_eq_emod_of_nonneg hvd.1]; omega
    exact pickKeeps_yes H HD ⟨hr, hnil, hnc, by omega⟩ ⟨hr2, hnil2, hnc2, by omega, hj2⟩ hl (short_fewS h.2.2.2.1) hw ht hv hvd.1 hvd.2 rfl hd9.1 hd9.2 hsm hG

end Go.Proofs.YtchogijdkagiiaaGreatDoor
