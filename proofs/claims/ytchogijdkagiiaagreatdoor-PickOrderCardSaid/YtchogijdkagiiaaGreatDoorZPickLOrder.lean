/- PickOrder of layer 14, as a walk over the contracts. Written by gen/gen_pick.py. -/
import Derived.Deep.QuietTactic
import Derived.LoopTactic
import Derived.Test.YtchogijdkagiiaaGreatDoorMg08
import Derived.Test.YtchogijdkagiiaaGreatDoorMg05
namespace Go.Proofs.YtchogijdkagiiaaGreatDoor
open Go.RowKit

set_option maxRecDepth 100000 in
set_option maxHeartbeats 8000000 in
theorem pickOrder_no (H : PickOk) (A : Option Addr) (n c : Nat) (_g : Gr) (A2 : Option Addr) (n2 c2 : Nat) (_use : List Int) (A3 : Option Addr) (n3 c3 : Nat) (l : Tb) (A4 : Option Addr) (n4 c4 : Nat) (t u : Int) (w : World) (hl : TAsk w A3 n3 c3 l) (hs : decide (SmallS n n2 n3 l n4) = false) (hG : Glob w) : Calls Tryz.prog 5 #[.slice A n c, .slice A2 n2 c2, .slice A3 n3 c3, .slice A4 n4 c4, .int .i64 t, .int .i64 u] w fun e w' => e = .returned (.bool true) ∧ Below w.heap.size w w' := by
  have HB := Lib.hid (Below.refl w.heap.size w)
  have HG := Lib.hid hG
  have TA := Lib.hid hl
  have HSM := Lib.hid hs
  clear hG hl hs
  go_enter Tryz.func5, Tryz.ntmps5
  go_wp2_with fail
  refine (awake14_any H _ HG.out).mono ?_
  rintro e w1 ⟨rfl, hb⟩
  replace HB := Lib.hid (HB.out.trans (hb.mono HB.out.size))
  replace HG := Lib.hid (HG.out.next hb)
  replace TA := Lib.hid (TA.out.next hb)
  clear hb
  go_wp2_with fail
  refine (smallP_b TA.out HSM.out).mono ?_
  rintro e w2 ⟨rfl, hb⟩
  replace HB := Lib.hid (HB.out.trans (hb.mono HB.out.size))
  replace HG := Lib.hid (HG.out.next hb)
  replace TA := Lib.hid (TA.out.next hb)
  clear hb
  go_wp2
  go_ret
  exact ⟨rfl, HB.out⟩
set_option maxRecDepth 100000 in
set_option maxHeartbeats 8000000 in
theorem pickOrder_yes (H : PickOk) (H3 : SlotOk) (HD : HeldOk) {A : Option Addr} {n c : Nat} {g : Gr} {A2 : Option Addr} {n2 c2 : Nat} {use : List Int} {A3 : Option Addr} {n3 c3 : Nat} {l : Tb} {A4 : Option Addr} {n4 c4 : Nat} {ws : List Wn} {t u : Int} {w : World} (hg : GAsk w A n c g) (hu : LAsk w A2 n2 c2 use) (hl : TAsk w A3 n3 c3 l) (hf : FewT l) (hw : WnAsk w A4 n4 c4 ws) (ht : I64 t) (hv : I64 u) (hsm : decide (SmallS n n2 n3 l n4) = true) (hG : Glob w) : Calls Tryz.prog 5 #[.slice A n c, .slice A2 n2 c2, .slice A3 n3 c3, .slice A4 n4 c4, .int .i64 t, .int .i64 u] w fun e w' => e = .returned (.bool true) ∧ Below w.heap.size w w' := by
  have HB := Lib.hid (Below.refl w.heap.size w)
  have HG := Lib.hid hG
  have GA := Lib.hid hg
  have UA := Lib.hid hu
  have TA := Lib.hid hl
  have WA := Lib.hid hw
  have HF := Lib.hid hf
  have HT := Lib.hid ht
  have HV := Lib.hid hv
  have HSM := Lib.hid hsm
  have hsp := of_decide_eq_true hsm
  unfold SmallS at hsp
  have HN60 : Hid (n ≤ 60) := Lib.hid (by omega)
  have HN61 : Hid (n3 + n4 ≤ 60) := Lib.hid (by omega)
  have hwl : ws.length ≤ 8 := by rw [hw.len]; omega
  have HWL := Lib.hid hw.len
  have HTL := Lib.hid hl.reads.len
  obtain ⟨B, j3⟩ : ∃ x, (pickA g use l ws t u 1 0).1 = x := ⟨_, rfl⟩
  obtain ⟨kb, i3⟩ : ∃ x, (pickA g use l ws t u 1 0).2.1 = x := ⟨_, rfl⟩
  obtain ⟨ea, g3⟩ : ∃ x, (pickA g use l ws t u 1 0).2.2 = x := ⟨_, rfl⟩
  have P3 : Hid (pickA g use l ws t u 1 0 = (B, kb, ea)) := Lib.hid (by rw [← j3, ← i3, ← g3])
  have L3 : Hid (B.length + kb.length ≤ 8) := Lib.hid (by have := @pickA_len g use ws t u 1 0 l; rw [j3, i3] at this; omega)
  have M3 : Hid (B.length ≤ maxLen ∧ kb.length ≤ maxLen) := Lib.hid (by have := L3.out; unfold maxLen; omega)
  have h48 : n4 ≤ 8 := by rw [← hw.len]; exact hwl
  have HOS : Hid (ea = 0 → OrdAt g use t u ws B 0 0 l false) := Lib.hid (fun h => by
    have h1 : (pickA g use l ws t u 1 0).2.2 = 0 := g3.trans h
    have h2 := ord_start (pickA_inv h1).1 h1
    rw [j3] at h2; exact h2)
  have HBT : Hid (∀ y ∈ B, y.things.length ≤ 60) := Lib.hid (fun y hy => by
    have h1 := @pickA_things g use ws t u 1 0 l y (.inl (by rw [j3]; exact hy))
    have h2 := hg.reads.1
    omega)
  clear hG hg hu hl hf hw ht hv hsm hsp hwl j3 i3 g3
  go_enter Tryz.func5, Tryz.ntmps5
  go_wp2_with fail
  refine (awake14_any H _ HG.out).mono ?_
  rintro e w1 ⟨rfl, hb⟩
  replace HB := Lib.hid (HB.out.trans (hb.mono HB.out.size))
  replace HG := Lib.hid (HG.out.next hb)
  replace GA := Lib.hid (GA.out.next hb)
  replace UA := Lib.hid (UA.out.next hb)
  replace TA := Lib.hid (TA.out.next hb)
  replace WA := Lib.hid (WA.out.next hb)
  clear hb
  go_wp2_with fail
  refine (smallP_b TA.out HSM.out).mono ?_
  rintro e w2 ⟨rfl, hb⟩
  replace HB := Lib.hid (HB.out.trans (hb.mono HB.out.size))
  replace HG := Lib.hid (HG.out.next hb)
  replace GA := Lib.hid (GA.out.next hb)
  replace UA := Lib.hid (UA.out.next hb)
  replace TA := Lib.hid (TA.out.next hb)
  replace WA := Lib.hid (WA.out.next hb)
  clear hb
  go_wp2
  go_loopw [13] (fun iv wx => ∃ i : Nat, i ≤ n4 ∧ iv = .int .i64 i ∧ (∀ a q, a < i → q < a → (ws.getD q wn0).id ≠ (ws.getD a wn0).id) ∧ Below w2.heap.size w2 wx) (fun iv _ => n4 - (intOf iv).toNat)
  case atStart => exact ⟨0, Nat.zero_le _, rfl, fun a q h => by omega, Below.refl _ _⟩
  case round =>
    obtain ⟨i, hi, rfl, hdi, hb⟩ := hrel
    have HDI := Lib.hid hdi
    have HBO := Lib.hid hb
    replace HB := Lib.hid (HB.out.trans (hb.mono HB.out.size))
    replace HG := Lib.hid (HG.out.next hb)
    replace GA := Lib.hid (GA.out.next hb)
    replace UA := Lib.hid (UA.out.next hb)
    replace TA := Lib.hid (TA.out.next hb)
    replace WA := Lib.hid (WA.out.next hb)
    clear hb hdi
    by_cases hlt : i < n4
    · obtain ⟨bw, offw, hA4, hbw, ⟨e0, e1, e2, e3, e4, e5, e6, e7⟩, hxs, hxi⟩ := WA.out.one hlt
      subst hA4
      obtain ⟨x, hx⟩ : ∃ x, (ws.getD i wn0).id = x := ⟨_, rfl⟩
      rw [hx] at e0
      have HX := Lib.hid hx
      clear hx e1 e2 e3 e4 e5 e6 e7 hxs hxi
      go_wp2
      go_loopw [14] (fun kv wx => ∃ k : Nat, k ≤ i ∧ kv = .int .i64 k ∧ (∀ q, q < k → (ws.getD q wn0).id ≠ x) ∧ Below wr.heap.size wr wx) (fun kv _ => i - (intOf kv).toNat)
      case atStart => exact ⟨0, Nat.zero_le _, rfl, fun q hq => by omega, Below.refl _ _⟩
      case round =>
        obtain ⟨k, hk, rfl, hdk, hb⟩ := hrel
        have HDK := Lib.hid hdk
        have HBI := Lib.hid hb
        have e0q := keep_cell hbw e0 hb
        have hbwq := Nat.lt_of_lt_of_le hbw hb.size
        clear e0 hbw
        have e0 := e0q
        have hbw := hbwq
        clear e0q hbwq
        replace HB := Lib.hid (HB.out.trans (hb.mono HB.out.size))
        replace HG := Lib.hid (HG.out.next hb)
        replace GA := Lib.hid (GA.out.next hb)
        replace UA := Lib.hid (UA.out.next hb)
        replace TA := Lib.hid (TA.out.next hb)
        replace WA := Lib.hid (WA.out.next hb)
        replace HBO := Lib.hid (HBO.out.trans (hb.mono HBO.out.size))
        clear hb hdk
        by_cases hlk : k < i
        · have hkn : k < n4 := by omega
          obtain ⟨bk, offk, hA5, hbk, ⟨f0, f1, f2, f3, f4, f5, f6, f7⟩, hys, hyi⟩ := WA.out.one hkn
          injection hA5 with hA5
          injection hA5 with hB5 hO5 _
          subst hB5 hO5
          clear f1 f2 f3 f4 f5 f6 f7 hys hyi
          obtain ⟨y, hy⟩ : ∃ y, (ws.getD k wn0).id = y := ⟨_, rfl⟩
          rw [hy] at f0
          by_cases hyx : y = x
          · have dyx : (y == x) = true := beq_iff_eq.2 hyx
            clear hyx hy
            go_wp2
            have zc0 : ∀ p : Later wr, p.now.cell? ⟨bw, offw + k * 8, none⟩ = some (.int .i64 y) := fun _ => Later.cell hbk f0
            have zc1 : ∀ p : Later wr, p.now.cell? ⟨bw, offw + i * 8, none⟩ = some (.int .i64 x) := fun _ => Later.cell hbw e0
            refine wp_region_later (by kernel_rfl) (by kernel_rfl) ?_
            repeat (first | go_big_quiet_skip | (go_big_quiet_want; go_big_quiet_op; first | go_big_quiet_on | (apply Exists.intro; refine ⟨fun pz => ?_, ?_⟩; (fail); go_big_quiet_on)))
            refine wpQuiet_nil ?_
            intro _ hw'
            obtain ⟨pz, rfl⟩ := hw'
            obtain ⟨w4, hb⟩ := pz
            try dsimp only
            clear zc0 zc1
            replace HB := Lib.hid (HB.out.trans (hb.mono HB.out.size))
            replace HBO := Lib.hid (HBO.out.trans (hb.mono HBO.out.size))
            replace HBI := Lib.hid (HBI.out.trans (hb.mono HBI.out.size))
            replace HG := Lib.hid (HG.out.next hb)
            replace GA := Lib.hid (GA.out.next hb)
            replace UA := Lib.hid (UA.out.next hb)
            replace TA := Lib.hid (TA.out.next hb)
            replace WA := Lib.hid (WA.out.next hb)
            clear hb
            go_wp2
            go_ret
            exact ⟨rfl, HB.out⟩
          · have dyx : (y == x) = false := beq_eq_false_iff_ne.2 hyx
            have HDN : Hid (∀ q, q < k + 1 → (ws.getD q wn0).id ≠ x) := Lib.hid (fun q hq => by
              by_cases hqk : q = k
              · rw [hqk, hy]; exact hyx
              · exact HDK.out q (by omega))
            clear hyx hy
            go_wp2
            have zc0 : ∀ p : Later wr, p.now.cell? ⟨bw, offw + k * 8, none⟩ = some (.int .i64 y) := fun _ => Later.cell hbk f0
            have zc1 : ∀ p : Later wr, p.now.cell? ⟨bw, offw + i * 8, none⟩ = some (.int .i64 x) := fun _ => Later.cell hbw e0
            refine wp_region_later (by kernel_rfl) (by kernel_rfl) ?_
            repeat (first | go_big_quiet_skip | (go_big_quiet_want; go_big_quiet_op; first | go_big_quiet_on | (apply Exists.intro; refine ⟨fun pz => ?_, ?_⟩; (fail); go_big_quiet_on)))
            refine wpQuiet_nil ?_
            intro _ hw'
            obtain ⟨pz, rfl⟩ := hw'
            obtain ⟨w4, hb⟩ := pz
            try dsimp only
            clear zc0 zc1
            replace HB := Lib.hid (HB.out.trans (hb.mono HB.out.size))
            replace HBO := Lib.hid (HBO.out.trans (hb.mono HBO.out.size))
            replace HBI := Lib.hid (HBI.out.trans (hb.mono HBI.out.size))
            replace HG := Lib.hid (HG.out.next hb)
            replace GA := Lib.hid (GA.out.next hb)
            replace UA := Lib.hid (UA.out.next hb)
            replace TA := Lib.hid (TA.out.next hb)
            replace WA := Lib.hid (WA.out.next hb)
            clear hb
            go_wp2
            go_roundw
            case rel => exact ⟨k + 1, by omega, by go_num, HDN.out, HBI.out⟩
            case measure => simp [intOf] <;> omega
        · have HDN : Hid (∀ a q, a < i + 1 → q < a → (ws.getD q wn0).id ≠ (ws.getD a wn0).id) := Lib.hid (fun a q ha hq => by
            by_cases hai : a = i
            · rw [hai, HX.out]; exact HDK.out q (by omega)
            · exact HDI.out a q (by omega) hq)
          clear e0 hbw
          go_wp2
          go_roundw
          case rel => exact ⟨i + 1, by omega, by go_num, HDN.out, HBO.out⟩
          case measure => simp [intOf] <;> omega
    · have HDIST : Hid (∀ a q, a < ws.length → q < ws.length → a ≠ q → (ws.getD a wn0).id ≠ (ws.getD q wn0).id) := Lib.hid (fun a q ha hq hne => by
        have hin : i = ws.length := by rw [HWL.out]; omega
        rcases Nat.lt_or_gt_of_ne hne with h | h
        · exact HDI.out q a (by omega) h
        · exact (HDI.out a q (by omega) h).symm)
      go_wp2_with fail
      refine (p14_pick H GA.out UA.out TA.out HF.out WA.out HN60.out HN61.out HT.out HV.out (i64_of (by decide) (by decide)) (i64_of (by decide) (by decide)) HG.out P3.out).mono ?_
      rintro e w3 ⟨⟨A31, c31, A32, c32, rfl, ⟨hr3, hn3, hc3⟩, ⟨kr3, kn3, kc3⟩⟩, hb⟩
      replace HB := Lib.hid (HB.out.trans (hb.mono HB.out.size))
      replace HG := Lib.hid (HG.out.next hb)
      replace GA := Lib.hid (GA.out.next hb)
      replace UA := Lib.hid (UA.out.next hb)
      replace TA := Lib.hid (TA.out.next hb)
      replace WA := Lib.hid (WA.out.next hb)
      clear hb
      have RA := Lib.hid (ans_ask hr3 hn3 hc3 M3.out.1)
      clear hr3 hn3 hc3 kr3 kn3 kc3
      obtain ⟨mB, hmB⟩ : ∃ mB, B.length = mB := ⟨_, rfl⟩
      have HMM := Lib.hid hmB
      have hm8 : mB ≤ 8 := by have := L3.out; omega
      rw [hmB] at RA ⊢
      clear hmB
      by_cases h0 : ea = 0
      · have d0 : (ea != 0) = false := by rw [h0]; rfl
        have HOS0 := Lib.hid (HOS.out h0)
        have HBS := Lib.hid (HBT.out)
        clear h0
        go_wp2
        go_loopw [18, 19, 20, 21] (fun nv sv lv iv wx => ∃ (i m : Nat) (st : Bool) (tab : Tb) (A5 : Option Addr) (n5 c5 : Nat), nv = .int .i64 m ∧ sv = .bool st ∧ lv = .slice A5 n5 c5 ∧ iv = .int .i64 i ∧ i ≤ n4 ∧ m ≤ mB ∧ OrdAt g use t u ws B i m tab st ∧ TAsk wx A5 n5 c5 tab ∧ (FewT tab ∧ tab.length ≤ n3 + i) ∧ Below w3.heap.size w3 wx) (fun _ _ _ iv _ => n4 - (intOf iv).toNat)
        case atStart => exact ⟨0, 0, false, l, A3, n3, c3, rfl, rfl, rfl, rfl, Nat.zero_le _, Nat.zero_le _, HOS0.out, TA.out, ⟨HF.out, by rw [HTL.out]; omega⟩, Below.refl _ _⟩
        case round =>
          obtain ⟨i, m, st, tab, A5, n5, c5, rfl, rfl, rfl, rfl, hi, hm, hor, hto, hfo, hb⟩ := hrel
          have HMB := Lib.hid hm
          have HOR := Lib.hid hor
          have TO := Lib.hid hto
          have HFO := Lib.hid hfo
          have HBM := Lib.hid hb
          replace HB := Lib.hid (HB.out.trans (hb.mono HB.out.size))
          replace HG := Lib.hid (HG.out.next hb)
          replace GA := Lib.hid (GA.out.next hb)
          replace UA := Lib.hid (UA.out.next hb)
          replace WA := Lib.hid (WA.out.next hb)
          replace RA := Lib.hid (RA.out.next hb)
          clear hb hm hor hto hfo
          by_cases hlt : i < n4
          · obtain ⟨bw, offw, hA4, hbw, ⟨e0, e1, e2, e3, e4, e5, e6, e7⟩, hxs, hxi⟩ := WA.out.one hlt
            subst hA4
            obtain ⟨x, hx⟩ : ∃ x, ws.getD i wn0 = x := ⟨_, rfl⟩
            have hkl : i < ws.length := by rw [HWL.out]; exact hlt
            rw [hx] at e0 e1 e2 e3 e4 e5 e6 e7 hxs
            have HXS := Lib.hid hxs
            have HMISS : Hid (¬ (m < mB ∧ (B.getD m hd0).id = x.id) → OrdAt g use t u ws B (i + 1) m tab (st || firstBS g use tab x.spec t u)) := Lib.hid (fun h => by
              have h1 := ord_miss hkl HOR.out (by rw [HMM.out, hx]; exact h)
              rwa [hx] at h1)
            have HHIT : Hid (m < mB → (B.getD m hd0).id = x.id → st = false ∧ OrdAt g use t u ws B (i + 1) (m + 1) (addT tab (B.getD m hd0)) false) := Lib.hid (fun h1 h2 => ord_hit hkl HDIST.out HOR.out (by rw [HMM.out]; exact h1) (by rw [hx]; exact h2))
            clear hx hkl hxs hxi
            by_cases hlm : m < mB
            · obtain ⟨b6, off6, A6, m6, c6, hA6, hb6, f0, f1, f2, f3, hh⟩ := RA.out.reads.one hlm
              subst hA6
              obtain ⟨y, hy⟩ : ∃ y, B.getD m hd0 = y := ⟨_, rfl⟩
              rw [hy] at f0 f2 f3 hh HMISS HHIT
              have HY := Lib.hid hh
              have HY100 : Hid (m6 ≤ 100) := Lib.hid (by
                have h1 := HBS.out y (by rw [← hy]; exact getD_in (by rw [HMM.out]; exact hlm))
                rw [hh.reads.1] at h1; omega)
              clear hh hy
              by_cases hid : y.id = x.id
              · have dyx : (y.id == x.id) = true := beq_iff_eq.2 hid
                obtain ⟨hst, hon⟩ := HHIT.out hlm hid
                subst hst
                have HON := Lib.hid hon
                have HFW := Lib.hid (addT_fewA (l := tab) (h := y) HFO.out.1 (by rw [HY.out.reads.1]; exact HY100.out) (by have := HFO.out.2; have := HN61.out; omega))
                clear hon hid
                go_wp2
                have zc0 : ∀ p : Later wr, p.now.cell? ⟨b6, off6 + m * 4, none⟩ = some (.int .i64 y.id) := fun _ => Later.cell hb6 f0
                have zc1 : ∀ p : Later wr, p.now.cell? ⟨bw, offw + i * 8, none⟩ = some (.int .i64 x.id) := fun _ => Later.cell hbw e0
                refine wp_region_later (by kernel_rfl) (by kernel_rfl) ?_
                repeat (first | go_big_quiet_skip | (go_big_quiet_want; go_big_quiet_op; first | go_big_quiet_on | (apply Exists.intro; refine ⟨fun pz => ?_, ?_⟩; (fail); go_big_quiet_on)))
                refine wpQuiet_nil ?_
                intro _ hw'
                obtain ⟨pz, rfl⟩ := hw'
                obtain ⟨w6, hb⟩ := pz
                try dsimp only
                clear zc0 zc1
                replace HB := Lib.hid (HB.out.trans (hb.mono HB.out.size))
                replace HBM := Lib.hid (HBM.out.trans (hb.mono HBM.out.size))
                replace HG := Lib.hid (HG.out.next hb)
                replace GA := Lib.hid (GA.out.next hb)
                replace UA := Lib.hid (UA.out.next hb)
                replace WA := Lib.hid (WA.out.next hb)
                replace RA := Lib.hid (RA.out.next hb)
                replace TO := Lib.hid (TO.out.next hb)
                replace HY := Lib.hid (HY.out.next hb)
                replace e0 := keep_cell hbw e0 hb
                replace e1 := keep_cell hbw e1 hb
                replace e2 := keep_cell hbw e2 hb
                replace e3 := keep_cell hbw e3 hb
                replace e4 := keep_cell hbw e4 hb
                replace e5 := keep_cell hbw e5 hb
                replace e6 := keep_cell hbw e6 hb
                replace e7 := keep_cell hbw e7 hb
                replace hbw := Nat.lt_of_lt_of_le hbw hb.size
                replace f0 := keep_cell hb6 f0 hb
                replace f1 := keep_cell hb6 f1 hb
                replace f2 := keep_cell hb6 f2 hb
                replace f3 := keep_cell hb6 f3 hb
                replace hb6 := Nat.lt_of_lt_of_le hb6 hb.size
                clear hb
                have HC := Lib.hid (h10_add HD TO.out HFO.out.1 HY.out HY100.out rfl rfl)
                go_wp2_with fail
                refine HC.out.mono ?_
                rintro e w8 ⟨⟨A8, c8, rfl, hr8, hn8, hc8⟩, hb⟩
                have TO8 : Hid (TAsk w8 A8 (addT tab y).length c8 (addT tab y)) := Lib.hid ⟨hr8, hn8, hc8, by have := HFW.out.2; have := HFO.out.2; have := HN61.out; unfold maxLen; omega⟩
                have HB8 := Lib.hid (HBM.out.trans (hb.mono HBM.out.size))
                clear hr8 hn8 hc8 hb HC e0 e1 e2 e3 e4 e5 e6 e7 hbw f0 f1 f2 f3 hb6
                go_wp2
                go_roundw
                case rel => exact ⟨i + 1, m + 1, false, addT tab y, A8, _, c8, rfl, by go_num, rfl, by go_num, by omega, by omega, HON.out, TO8.out, ⟨HFW.out.1, by have := HFW.out.2; have := HFO.out.2; omega⟩, HB8.out⟩
                case measure => simp [intOf] <;> omega
              · have dyx : (y.id == x.id) = false := beq_eq_false_iff_ne.2 hid
                have HOM := Lib.hid (HMISS.out (fun h => hid h.2))
                clear hid
                go_wp2
                have zc0 : ∀ p : Later wr, p.now.cell? ⟨b6, off6 + m * 4, none⟩ = some (.int .i64 y.id) := fun _ => Later.cell hb6 f0
                have zc1 : ∀ p : Later wr, p.now.cell? ⟨bw, offw + i * 8, none⟩ = some (.int .i64 x.id) := fun _ => Later.cell hbw e0
                refine wp_region_later (by kernel_rfl) (by kernel_rfl) ?_
                repeat (first | go_big_quiet_skip | (go_big_quiet_want; go_big_quiet_op; first | go_big_quiet_on | (apply Exists.intro; refine ⟨fun pz => ?_, ?_⟩; (fail); go_big_quiet_on)))
                refine wpQuiet_nil ?_
                intro _ hw'
                obtain ⟨pz, rfl⟩ := hw'
                obtain ⟨w6, hb⟩ := pz
                try dsimp only
                clear zc0 zc1
                replace HB := Lib.hid (HB.out.trans (hb.mono HB.out.size))
                replace HBM := Lib.hid (HBM.out.trans (hb.mono HBM.out.size))
                replace HG := Lib.hid (HG.out.next hb)
                replace GA := Lib.hid (GA.out.next hb)
                replace UA := Lib.hid (UA.out.next hb)
                replace WA := Lib.hid (WA.out.next hb)
                replace RA := Lib.hid (RA.out.next hb)
                replace TO := Lib.hid (TO.out.next hb)
                replace e0 := keep_cell hbw e0 hb
                replace e1 := keep_cell hbw e1 hb
                replace e2 := keep_cell hbw e2 hb
                replace e3 := keep_cell hbw e3 hb
                replace e4 := keep_cell hbw e4 hb
                replace e5 := keep_cell hbw e5 hb
                replace e6 := keep_cell hbw e6 hb
                replace e7 := keep_cell hbw e7 hb
                replace hbw := Nat.lt_of_lt_of_le hbw hb.size
                clear hb
                clear f0 f1 f2 f3 hb6
                cases hfb : firstBS g use tab x.spec t u with
                | true =>
                  have HON : Hid (OrdAt g use t u ws B (i + 1) m tab true) := Lib.hid (by
                    have h1 := HOM.out
                    rw [hfb] at h1
                    simpa using h1)
                  have HC := Lib.hid (s13_first H3 (s := x.spec) (t := t) (u := u) GA.out UA.out TO.out HFO.out.1 HXS.out HT.out HV.out HG.out rfl rfl hfb)
                  clear hfb
                  go_wp2_with fail
                  refine HC.out.mono ?_
                  rintro e w8 ⟨⟨A8, c8, rfl, _, _, _⟩, hb⟩
                  have TO8 := Lib.hid (TO.out.next hb)
                  have HB8 := Lib.hid (HBM.out.trans (hb.mono HBM.out.size))
                  clear hb HC e0 e1 e2 e3 e4 e5 e6 e7 hbw
                  go_wp2
                  go_roundw
                  case rel => exact ⟨i + 1, m, true, tab, A5, n5, c5, rfl, rfl, rfl, by go_num, by omega, HMB.out, HON.out, TO8.out, ⟨HFO.out.1, by have := HFO.out.2; omega⟩, HB8.out⟩
                  case measure => simp [intOf] <;> omega
                | false =>
                  have HON : Hid (OrdAt g use t u ws B (i + 1) m tab st) := Lib.hid (by
                    have h1 := HOM.out
                    rw [hfb] at h1
                    simpa using h1)
                  have HC := Lib.hid (s13_first H3 (s := x.spec) (t := t) (u := u) GA.out UA.out TO.out HFO.out.1 HXS.out HT.out HV.out HG.out rfl rfl hfb)
                  clear hfb
                  go_wp2_with fail
                  refine HC.out.mono ?_
                  rintro e w8 ⟨⟨A8, c8, rfl, _, _, _⟩, hb⟩
                  have TO8 := Lib.hid (TO.out.next hb)
                  have HB8 := Lib.hid (HBM.out.trans (hb.mono HBM.out.size))
                  clear hb HC e0 e1 e2 e3 e4 e5 e6 e7 hbw
                  go_wp2
                  go_roundw
                  case rel => exact ⟨i + 1, m, st, tab, A5, n5, c5, rfl, rfl, rfl, by go_num, by omega, HMB.out, HON.out, TO8.out, ⟨HFO.out.1, by have := HFO.out.2; omega⟩, HB8.out⟩
                  case measure => simp [intOf] <;> omega
            · have dlm : decide (m < mB) = false := decide_eq_false hlm
              have HOM := Lib.hid (HMISS.out (fun h => hlm h.1))
              go_wp2
              refine wp_region_later (by kernel_rfl) (by kernel_rfl) ?_
              repeat (first | go_big_quiet_skip | (go_big_quiet_want; go_big_quiet_op; first | go_big_quiet_on | (apply Exists.intro; refine ⟨fun pz => ?_, ?_⟩; (fail); go_big_quiet_on)))
              refine wpQuiet_nil ?_
              intro _ hw'
              obtain ⟨pz, rfl⟩ := hw'
              obtain ⟨w6, hb⟩ := pz
              try dsimp only
              replace HB := Lib.hid (HB.out.trans (hb.mono HB.out.size))
              replace HBM := Lib.hid (HBM.out.trans (hb.mono HBM.out.size))
              replace HG := Lib.hid (HG.out.next hb)
              replace GA := Lib.hid (GA.out.next hb)
              replace UA := Lib.hid (UA.out.next hb)
              replace WA := Lib.hid (WA.out.next hb)
              replace RA := Lib.hid (RA.out.next hb)
              replace TO := Lib.hid (TO.out.next hb)
              replace e0 := keep_cell hbw e0 hb
              replace e1 := keep_cell hbw e1 hb
              replace e2 := keep_cell hbw e2 hb
              replace e3 := keep_cell hbw e3 hb
              replace e4 := keep_cell hbw e4 hb
              replace e5 := keep_cell hbw e5 hb
              replace e6 := keep_cell hbw e6 hb
              replace e7 := keep_cell hbw e7 hb
              replace hbw := Nat.lt_of_lt_of_le hbw hb.size
              clear hb
              cases hfb : firstBS g use tab x.spec t u with
              | true =>
                have HON : Hid (OrdAt g use t u ws B (i + 1) m tab true) := Lib.hid (by
                  have h1 := HOM.out
                  rw [hfb] at h1
                  simpa using h1)
                have HC := Lib.hid (s13_first H3 (s := x.spec) (t := t) (u := u) GA.out UA.out TO.out HFO.out.1 HXS.out HT.out HV.out HG.out rfl rfl hfb)
                clear hfb
                go_wp2_with fail
                refine HC.out.mono ?_
                rintro e w8 ⟨⟨A8, c8, rfl, _, _, _⟩, hb⟩
                have TO8 := Lib.hid (TO.out.next hb)
                have HB8 := Lib.hid (HBM.out.trans (hb.mono HBM.out.size))
                clear hb HC e0 e1 e2 e3 e4 e5 e6 e7 hbw
                go_wp2
                go_roundw
                case rel => exact ⟨i + 1, m, true, tab, A5, n5, c5, rfl, rfl, rfl, by go_num, by omega, HMB.out, HON.out, TO8.out, ⟨HFO.out.1, by have := HFO.out.2; omega⟩, HB8.out⟩
                case measure => simp [intOf] <;> omega
              | false =>
                have HON : Hid (OrdAt g use t u ws B (i + 1) m tab st) := Lib.hid (by
                  have h1 := HOM.out
                  rw [hfb] at h1
                  simpa using h1)
                have HC := Lib.hid (s13_first H3 (s := x.spec) (t := t) (u := u) GA.out UA.out TO.out HFO.out.1 HXS.out HT.out HV.out HG.out rfl rfl hfb)
                clear hfb
                go_wp2_with fail
                refine HC.out.mono ?_
                rintro e w8 ⟨⟨A8, c8, rfl, _, _, _⟩, hb⟩
                have TO8 := Lib.hid (TO.out.next hb)
                have HB8 := Lib.hid (HBM.out.trans (hb.mono HBM.out.size))
                clear hb HC e0 e1 e2 e3 e4 e5 e6 e7 hbw
                go_wp2
                go_roundw
                case rel => exact ⟨i + 1, m, st, tab, A5, n5, c5, rfl, rfl, rfl, by go_num, by omega, HMB.out, HON.out, TO8.out, ⟨HFO.out.1, by have := HFO.out.2; omega⟩, HB8.out⟩
                case measure => simp [intOf] <;> omega
          · have HEND : Hid (m = mB) := Lib.hid (by
              have h1 : i = ws.length := by rw [HWL.out]; omega
              have h2 := HOR.out
              rw [h1] at h2
              rw [← HMM.out]; exact ord_end h2)
            have dmm : ((m : Int) == (mB : Int)) = true := by rw [HEND.out]; exact beq_self_eq_true _
            have dmn : (m == mB) = true := by rw [HEND.out]; exact beq_self_eq_true _
            go_wp2
            go_ret
            exact ⟨rfl, HB.out⟩
      · have d0 : (ea != 0) = true := bne_iff_ne.2 h0
        clear h0
        go_wp2
        go_ret
        exact ⟨rfl, HB.out⟩
theorem pickOrder_walk (H : PickOk) (H3 : SlotOk) (HD : HeldOk) (A : Option Addr) (n c : Nat) (g : Gr) (A2 : Option Addr) (n2 c2 : Nat) (use : List Int) (A3 : Option Addr) (n3 c3 : Nat) (l : Tb) (A4 : Option Addr) (n4 c4 : Nat) (ws : List Wn) (t u : Int) (w : World) (hr : RG w w.heap.size A n g) (hnil : A = none → c = 0) (hnc : n ≤ c) (_hn : n ≤ maxLen) (hr2 : RI w w.heap.size A2 n2 use) (hj2 : ∀ x ∈ use, I64 x) (hnil2 : A2 = none → c2 = 0) (hnc2 : n2 ≤ c2) (_hn2 : n2 ≤ maxLen) (hl : TAsk w A3 n3 c3 l) (hw : WnAsk w A4 n4 c4 ws) (ht : I64 t) (hv : I64 u) (hG : Glob w) : Calls Tryz.prog 5 #[.slice A n c, .slice A2 n2 c2, .slice A3 n3 c3, .slice A4 n4 c4, .int .i64 t, .int .i64 u] w fun e w' => e = .returned (.bool true) ∧ Below w.heap.size w w' := by
  cases hsm : decide (SmallS n n2 n3 l n4) with
  | false => exact pickOrder_no H A n c g A2 n2 c2 use A3 n3 c3 l A4 n4 c4 t u w hl hsm hG
  | true =>
    have h := of_decide_eq_true hsm
    unfold SmallS at h
    exact pickOrder_yes H H3 HD ⟨hr, hnil, hnc, by omega⟩ ⟨hr2, hnil2, hnc2, by omega, hj2⟩ hl (short_fewS h.2.2.2.1) hw ht hv hsm hG

end Go.Proofs.YtchogijdkagiiaaGreatDoor
