/- SlotKeeps of layer 13, as a walk over the contracts. Written by gen/gen_slot.py. -/
import Derived.Test.YtpoalgkgomljmaaGreatDoorZSlotLPlans
import Derived.Test.YtpoalgkgomljmaaGreatDoorZSlotKeepMath
import Derived.Test.YtpoalgkgomljmaaGreatDoorMg07
namespace Go.Proofs.YtpoalgkgomljmaaGreatDoor
open Go.RowKit

/-- what the program's set.Part answers -/
def PartOk : Prop := ∀ (A A' : Option Addr) (n c n' c' : Nat) (xs ys : List Int) (w : World), RI w w.heap.size A n xs → RI w w.heap.size A' n' ys → n ≤ maxLen → n' ≤ maxLen → Calls Tryz.prog 20 #[.slice A n c, .slice A' n' c'] w fun e w' => e = .returned (.bool (partB xs ys)) ∧ Below w.heap.size w w'
theorem sameH_eqS (x : Hd) : sameH x x = true := decide_eq_true ⟨rfl, rfl, rfl, rfl⟩
theorem part_c (H : PartOk) {A A' : Option Addr} {n c n' c' : Nat} {xs ys : List Int} {w : World} {v : Bool} (h1 : RI w w.heap.size A n xs) (h2 : RI w w.heap.size A' n' ys) (h3 : n ≤ maxLen) (h4 : n' ≤ maxLen) (e : partB xs ys = v) : Calls Tryz.prog 20 #[.slice A n c, .slice A' n' c'] w fun e w' => e = .returned (.bool v) ∧ Below w.heap.size w w' := by
  subst e; exact H A A' n c n' c' xs ys w h1 h2 h3 h4
set_option maxRecDepth 100000 in
set_option maxHeartbeats 8000000 in
theorem slotKeeps_no (H : SlotOk) (_HD : HeldOk) (_HSP : SpecOk) (_HPA : PartOk) (A : Option Addr) (n c : Nat) (_g : Gr) (A2 : Option Addr) (n2 c2 : Nat) (_use : List Int) (A3 : Option Addr) (n3 c3 : Nat) (l : Tb) (A4 : Option Addr) (n4 c4 : Nat) (t u : Int) (w : World) (hl : TAsk w A3 n3 c3 l) (hs : decide (SmallS n n2 n3 l n4) = false) (hG : Glob w) : Calls Tryz.prog 6 #[.slice A n c, .slice A2 n2 c2, .slice A3 n3 c3, .slice A4 n4 c4, .int .i64 t, .int .i64 u] w fun e w' => e = .returned (.bool true) ∧ Below w.heap.size w w' := by
  have HB := Lib.hid (Below.refl w.heap.size w)
  have HG := Lib.hid hG
  have TA := Lib.hid hl
  have HSM := Lib.hid hs
  clear hG hl hs
  go_enter Tryz.func6, Tryz.ntmps6
  go_wp2_with fail
  refine (awake13_any H _ HG.out).mono ?_
  rintro e w1 ⟨rfl, hb⟩
  have HBq := Lib.hid (HB.out.trans (hb.mono HB.out.size))
  clear HB
  have HB := HBq
  clear HBq
  have HGq := Lib.hid (HG.out.next hb)
  clear HG
  have HG := HGq
  clear HGq
  have TAq := Lib.hid (TA.out.next hb)
  clear TA
  have TA := TAq
  clear TAq
  clear hb
  go_wp2_with fail
  refine (smallS_b TA.out HSM.out).mono ?_
  rintro e w2 ⟨rfl, hb⟩
  have HBq := Lib.hid (HB.out.trans (hb.mono HB.out.size))
  clear HB
  have HB := HBq
  clear HBq
  have HGq := Lib.hid (HG.out.next hb)
  clear HG
  have HG := HGq
  clear HGq
  have TAq := Lib.hid (TA.out.next hb)
  clear TA
  have TA := TAq
  clear TAq
  clear hb
  go_wp2
  go_ret
  exact ⟨rfl, HB.out⟩
set_option maxRecDepth 100000 in
set_option maxHeartbeats 8000000 in
theorem slotKeeps_err (H : SlotOk) {A : Option Addr} {n c : Nat} {g : Gr} {A2 : Option Addr} {n2 c2 : Nat} {use : List Int} {A3 : Option Addr} {n3 c3 : Nat} {l : Tb} {A4 : Option Addr} {n4 c4 : Nat} {ws : List Wn} {t u : Int} {w : World} (hg : GAsk w A n c g) (hu : LAsk w A2 n2 c2 use) (hl : TAsk w A3 n3 c3 l) (hf : FewT l) (hw : WnAsk w A4 n4 c4 ws) (ht : I64 t) (hv : I64 u) (hsm : decide (SmallS n n2 n3 l n4) = true) (hG : Glob w) (he : planE g use l ws t u ≠ 0) : Calls Tryz.prog 6 #[.slice A n c, .slice A2 n2 c2, .slice A3 n3 c3, .slice A4 n4 c4, .int .i64 t, .int .i64 u] w fun e w' => e = .returned (.bool true) ∧ Below w.heap.size w w' := by
  have HB := Lib.hid (Below.refl w.heap.size w)
  have HG := Lib.hid hG
  have GA := Lib.hid hg
  have UA := Lib.hid hu
  have TA := Lib.hid hl
  have WA := Lib.hid hw
  have HF := Lib.hid hf
  have HT := Lib.hid ht
  have HV := Lib.hid hv
  have HSM := Lib.hid hsm
  have hsp := of_decide_eq_true hsm
  unfold SmallS at hsp
  have HN60 : Hid (n ≤ 60) := Lib.hid (by omega)
  have HN61 : Hid (n3 + n4 ≤ 60) := Lib.hid (by omega)
  have HPL : Hid ((planT g use l ws t u).length ≤ maxLen) := Lib.hid (Nat.le_trans (planT_len (by rw [hl.reads.len]; omega)) (by decide))
  obtain ⟨er, e2⟩ : ∃ r, planE g use l ws t u = r := ⟨_, rfl⟩
  have e1 : planT g use l ws t u = l := by unfold planT; rw [if_neg he]
  rw [e2] at he
  have d0 : (er != 0) = true := bne_iff_ne.2 he
  rw [e1] at HPL
  have E1 := Lib.hid e1
  have E2 := Lib.hid e2
  clear hG hg hu hl hf hw ht hv hsm hsp e1 e2 he
  go_enter Tryz.func6, Tryz.ntmps6
  go_wp2_with fail
  refine (awake13_any H _ HG.out).mono ?_
  rintro e w1 ⟨rfl, hb⟩
  have HBq := Lib.hid (HB.out.trans (hb.mono HB.out.size))
  clear HB
  have HB := HBq
  clear HBq
  have HGq := Lib.hid (HG.out.next hb)
  clear HG
  have HG := HGq
  clear HGq
  have GAq := Lib.hid (GA.out.next hb)
  clear GA
  have GA := GAq
  clear GAq
  have UAq := Lib.hid (UA.out.next hb)
  clear UA
  have UA := UAq
  clear UAq
  have TAq := Lib.hid (TA.out.next hb)
  clear TA
  have TA := TAq
  clear TAq
  have WAq := Lib.hid (WA.out.next hb)
  clear WA
  have WA := WAq
  clear WAq
  clear hb
  go_wp2_with fail
  refine (smallS_b TA.out HSM.out).mono ?_
  rintro e w2 ⟨rfl, hb⟩
  have HBq := Lib.hid (HB.out.trans (hb.mono HB.out.size))
  clear HB
  have HB := HBq
  clear HBq
  have HGq := Lib.hid (HG.out.next hb)
  clear HG
  have HG := HGq
  clear HGq
  have GAq := Lib.hid (GA.out.next hb)
  clear GA
  have GA := GAq
  clear GAq
  have UAq := Lib.hid (UA.out.next hb)
  clear UA
  have UA := UAq
  clear UAq
  have TAq := Lib.hid (TA.out.next hb)
  clear TA
  have TA := TAq
  clear TAq
  have WAq := Lib.hid (WA.out.next hb)
  clear WA
  have WA := WAq
  clear WAq
  clear hb
  go_wp2_with fail
  refine (s13_plan H GA.out UA.out TA.out HF.out WA.out HN60.out HN61.out HT.out HV.out HG.out E1.out E2.out).mono ?_
  rintro e w3 ⟨⟨A41, c41, rfl, hr4, hn4, hc4⟩, hb⟩
  have HBq := Lib.hid (HB.out.trans (hb.mono HB.out.size))
  clear HB
  have HB := HBq
  clear HBq
  have HGq := Lib.hid (HG.out.next hb)
  clear HG
  have HG := HGq
  clear HGq
  have GAq := Lib.hid (GA.out.next hb)
  clear GA
  have GA := GAq
  clear GAq
  have UAq := Lib.hid (UA.out.next hb)
  clear UA
  have UA := UAq
  clear UAq
  have TAq := Lib.hid (TA.out.next hb)
  clear TA
  have TA := TAq
  clear TAq
  have WAq := Lib.hid (WA.out.next hb)
  clear WA
  have WA := WAq
  clear WAq
  clear hb
  have TP4 := Lib.hid (ans_ask hr4 hn4 hc4 HPL.out)
  clear hr4 hn4 hc4
  go_wp2_with fail
  refine (sameT_b TP4.out TA.out (sameT_self _)).mono ?_
  rintro e w4 ⟨rfl, hb⟩
  have HBq := Lib.hid (HB.out.trans (hb.mono HB.out.size))
  clear HB
  have HB := HBq
  clear HBq
  have HGq := Lib.hid (HG.out.next hb)
  clear HG
  have HG := HGq
  clear HGq
  have GAq := Lib.hid (GA.out.next hb)
  clear GA
  have GA := GAq
  clear GAq
  have UAq := Lib.hid (UA.out.next hb)
  clear UA
  have UA := UAq
  clear UAq
  have TAq := Lib.hid (TA.out.next hb)
  clear TA
  have TA := TAq
  clear TAq
  have WAq := Lib.hid (WA.out.next hb)
  clear WA
  have WA := WAq
  clear WAq
  have TP4q := Lib.hid (TP4.out.next hb)
  clear TP4
  have TP4 := TP4q
  clear TP4q
  clear hb
  go_wp2
  go_ret
  exact ⟨rfl, HB.out⟩
set_option maxRecDepth 100000 in
set_option maxHeartbeats 8000000 in
theorem slotKeeps_ok (H : SlotOk) (HD : HeldOk) (HSP : SpecOk) (HPA : PartOk) {A : Option Addr} {n c : Nat} {g : Gr} {A2 : Option Addr} {n2 c2 : Nat} {use : List Int} {A3 : Option Addr} {n3 c3 : Nat} {l : Tb} {A4 : Option Addr} {n4 c4 : Nat} {ws : List Wn} {t u : Int} {w : World} (hg : GAsk w A n c g) (hu : LAsk w A2 n2 c2 use) (hl : TAsk w A3 n3 c3 l) (hf : FewT l) (hw : WnAsk w A4 n4 c4 ws) (ht : I64 t) (hv : I64 u) (hsm : decide (SmallS n n2 n3 l n4) = true) (hG : Glob w) (e2 : planE g use l ws t u = 0) : Calls Tryz.prog 6 #[.slice A n c, .slice A2 n2 c2, .slice A3 n3 c3, .slice A4 n4 c4, .int .i64 t, .int .i64 u] w fun e w' => e = .returned (.bool true) ∧ Below w.heap.size w w' := by
  have HB := Lib.hid (Below.refl w.heap.size w)
  have HG := Lib.hid hG
  have GA := Lib.hid hg
  have UA := Lib.hid hu
  have TA := Lib.hid hl
  have WA := Lib.hid hw
  have HF := Lib.hid hf
  have HT := Lib.hid ht
  have HV := Lib.hid hv
  have HSM := Lib.hid hsm
  have hsp := of_decide_eq_true hsm
  unfold SmallS at hsp
  have HN60 : Hid (n ≤ 60) := Lib.hid (by omega)
  have HN61 : Hid (n3 + n4 ≤ 60) := Lib.hid (by omega)
  have HPL : Hid ((planT g use l ws t u).length ≤ maxLen) := Lib.hid (Nat.le_trans (planT_len (by rw [hl.reads.len]; omega)) (by decide))
  obtain ⟨hkp, hPu⟩ := plan_keep e2
  obtain ⟨P, e1⟩ : ∃ r, planT g use l ws t u = r := ⟨_, rfl⟩
  rw [e1] at hkp hPu HPL
  have hPl := hkp.le
  rw [hl.reads.len] at hPl hPu
  rw [hw.len] at hPu
  have hgl : g.length ≤ 40 := by rw [hg.reads.1]; omega
  have HPF : Hid (FewT P) := Lib.hid ⟨by omega, fun x hx => by
    rcases hkp.new x hx with h1 | h1
    · exact hf.2 x h1
    · have := h1.2.2.2.2; omega⟩
  have HKP := Lib.hid hkp
  have HPR : Hid (rightT P = true) := Lib.hid hkp.right
  have HLR : Hid (rightT l = true) := Lib.hid (by
    cases hr : rightT l with
    | true => rfl
    | false => unfold planE at e2; rw [if_neg (by rw [hr]; decide)] at e2; cases e2)
  have HTL := Lib.hid hl.reads.len
  have HWL := Lib.hid hw.len
  have hn3s : n3 ≤ 12 := by omega
  have hn4s : n4 ≤ 8 := by omega
  have E1 := Lib.hid e1
  have E2 := Lib.hid e2
  have HULM : Hid (n2 ≤ maxLen) := Lib.hid (Nat.le_trans hu.few (by decide))
  clear hG hg hu hl hf hw ht hsm hsp e1 e2 hkp hgl
  go_enter Tryz.func6, Tryz.ntmps6
  go_wp2_with fail
  refine (awake13_any H _ HG.out).mono ?_
  rintro e w1 ⟨rfl, hb⟩
  have HBq := Lib.hid (HB.out.trans (hb.mono HB.out.size))
  clear HB
  have HB := HBq
  clear HBq
  have HGq := Lib.hid (HG.out.next hb)
  clear HG
  have HG := HGq
  clear HGq
  have GAq := Lib.hid (GA.out.next hb)
  clear GA
  have GA := GAq
  clear GAq
  have UAq := Lib.hid (UA.out.next hb)
  clear UA
  have UA := UAq
  clear UAq
  have TAq := Lib.hid (TA.out.next hb)
  clear TA
  have TA := TAq
  clear TAq
  have WAq := Lib.hid (WA.out.next hb)
  clear WA
  have WA := WAq
  clear WAq
  clear hb
  go_wp2_with fail
  refine (smallS_b TA.out HSM.out).mono ?_
  rintro e w2 ⟨rfl, hb⟩
  have HBq := Lib.hid (HB.out.trans (hb.mono HB.out.size))
  clear HB
  have HB := HBq
  clear HBq
  have HGq := Lib.hid (HG.out.next hb)
  clear HG
  have HG := HGq
  clear HGq
  have GAq := Lib.hid (GA.out.next hb)
  clear GA
  have GA := GAq
  clear GAq
  have UAq := Lib.hid (UA.out.next hb)
  clear UA
  have UA := UAq
  clear UAq
  have TAq := Lib.hid (TA.out.next hb)
  clear TA
  have TA := TAq
  clear TAq
  have WAq := Lib.hid (WA.out.next hb)
  clear WA
  have WA := WAq
  clear WAq
  clear hb
  go_wp2_with fail
  refine (s13_plan H GA.out UA.out TA.out HF.out WA.out HN60.out HN61.out HT.out HV.out HG.out E1.out E2.out).mono ?_
  rintro e w3 ⟨⟨A41, c41, rfl, hr4, hn4, hc4⟩, hb⟩
  have HBq := Lib.hid (HB.out.trans (hb.mono HB.out.size))
  clear HB
  have HB := HBq
  clear HBq
  have HGq := Lib.hid (HG.out.next hb)
  clear HG
  have HG := HGq
  clear HGq
  have GAq := Lib.hid (GA.out.next hb)
  clear GA
  have GA := GAq
  clear GAq
  have UAq := Lib.hid (UA.out.next hb)
  clear UA
  have UA := UAq
  clear UAq
  have TAq := Lib.hid (TA.out.next hb)
  clear TA
  have TA := TAq
  clear TAq
  have WAq := Lib.hid (WA.out.next hb)
  clear WA
  have WA := WAq
  clear WAq
  clear hb
  have TP4 := Lib.hid (ans_ask hr4 hn4 hc4 HPL.out)
  clear hr4 hn4 hc4
  obtain ⟨L, hL⟩ : ∃ L, P.length = L := ⟨_, rfl⟩
  have HLL := Lib.hid hL
  rw [hL] at TP4 hPl hPu ⊢
  clear hL
  have dl1 : decide (L < n3) = false := decide_eq_false (by omega)
  have dl2 : decide (n3 + n4 < L) = false := decide_eq_false (by omega)
  have dl3 : decide ((n3 : Int) + (n4 : Int) < (L : Int)) = false := decide_eq_false (by omega)
  go_wp2_with fail
  refine (h10_right HD TP4.out HPF.out HPR.out).mono ?_
  rintro e w4 ⟨rfl, hb⟩
  have HBq := Lib.hid (HB.out.trans (hb.mono HB.out.size))
  clear HB
  have HB := HBq
  clear HBq
  have HGq := Lib.hid (HG.out.next hb)
  clear HG
  have HG := HGq
  clear HGq
  have GAq := Lib.hid (GA.out.next hb)
  clear GA
  have GA := GAq
  clear GAq
  have UAq := Lib.hid (UA.out.next hb)
  clear UA
  have UA := UAq
  clear UAq
  have TAq := Lib.hid (TA.out.next hb)
  clear TA
  have TA := TAq
  clear TAq
  have WAq := Lib.hid (WA.out.next hb)
  clear WA
  have WA := WAq
  clear WAq
  have TP4q := Lib.hid (TP4.out.next hb)
  clear TP4
  have TP4 := TP4q
  clear TP4q
  clear hb
  have HB4 := HB
  have HG4 := HG
  have UA4 := UA
  have TA4 := TA
  have WA4 := WA
  have TP5 := TP4
  clear HB HG UA TA WA TP4 GA
  go_wp2_with fail
  go_loopw [15] (fun iv wr => ∃ (k : Nat), k ≤ n3 ∧ iv = .int .i64 k ∧ Below w4.heap.size w4 wr) (fun iv _ => n3 - (intOf iv).toNat)
  case atStart => exact ⟨0, Nat.zero_le _, rfl, Below.refl _ _⟩
  case round =>
    obtain ⟨k, hk, rfl, hbel⟩ := hrel
    have HBL := Lib.hid hbel
    have TA6 := Lib.hid (TA4.out.next hbel)
    have TP6 := Lib.hid (TP5.out.next hbel)
    clear hbel
    by_cases hlt : k < n3
    · have hkl : k < l.length := by rw [HTL.out]; exact hlt
      obtain ⟨b, off, A7, m7, c7, rfl, hb1, c0, c1, c2, c3, hh⟩ := TA6.out.reads.one hlt
      obtain ⟨x, hx⟩ : ∃ x, l.getD k hd0 = x := ⟨_, rfl⟩
      have hxl : x ∈ l := by rw [← hx, List.getD, List.getElem?_eq_getElem hkl]; exact List.getElem_mem hkl
      rw [hx] at hh c0 c2 c3
      have HG1 : Hid (getT P x.id = x) := Lib.hid (get_is HPR.out (HKP.out.old x hxl))
      have HG2 : Hid (gotT P x.id = true) := Lib.hid (by rw [got_is HPR.out]; exact has_iff_id.2 ⟨x, HKP.out.old x hxl, rfl⟩)
      have HX7 := Lib.hid hh
      clear hx hxl hkl hh
      go_wp2_with fail
      refine (h10_get HD TP6.out HPF.out HG1.out HG2.out).mono ?_
      rintro e w7 ⟨⟨A8, m8, c8, rfl, hh8⟩, hb⟩
      have hba : Below w7.heap.size w7 (w7.alloc (.cells #[.int .i64 x.id, .slice A8 m8 c8, .int .i64 x.frm, .int .i64 x.to] 51)) := (Below.refl _ _).alloc (Nat.le_refl _) _
      have hbc := hb.trans (hba.mono hb.size)
      have BX : Hid (BoxH (w7.alloc (.cells #[.int .i64 x.id, .slice A8 m8 c8, .int .i64 x.frm, .int .i64 x.to] 51)) w7.heap.size x A8 m8 c8) := Lib.hid (boxH_new w7 x A8 m8 c8)
      have HX8 := Lib.hid (hh8.next hba)
      have HX9 := Lib.hid (HX7.out.next hbc)
      have TA7 := Lib.hid (TA6.out.next hbc)
      have HBN := Lib.hid (HBL.out.trans (hbc.mono HBL.out.size))
      have k0 := keep_cell hb1 c0 hbc
      have k1 := keep_cell hb1 c1 hbc
      have k2 := keep_cell hb1 c2 hbc
      have k3 := keep_cell hb1 c3 hbc
      have hb2 := Nat.lt_of_lt_of_le hb1 hbc.size
      clear hb hba hbc hh8 c0 c1 c2 c3 hb1 HX7 TA6 TP6 HG1 HG2
      go_wp2_with fail
      have zc0 : ∀ p : Later (w7.alloc (.cells #[.int .i64 x.id, .slice A8 m8 c8, .int .i64 x.frm, .int .i64 x.to] 51)), p.now.cell? ⟨w7.heap.size, 0, none⟩ = some (.int .i64 x.id) := fun _ => Later.cell BX.out.lt BX.out.c0
      have zc1 : ∀ p : Later (w7.alloc (.cells #[.int .i64 x.id, .slice A8 m8 c8, .int .i64 x.frm, .int .i64 x.to] 51)), p.now.cell? ⟨w7.heap.size, 1, none⟩ = some (.slice A8 m8 c8) := fun _ => Later.cell BX.out.lt BX.out.c1
      have zc2 : ∀ p : Later (w7.alloc (.cells #[.int .i64 x.id, .slice A8 m8 c8, .int .i64 x.frm, .int .i64 x.to] 51)), p.now.cell? ⟨w7.heap.size, 2, none⟩ = some (.int .i64 x.frm) := fun _ => Later.cell BX.out.lt BX.out.c2
      have zc3 : ∀ p : Later (w7.alloc (.cells #[.int .i64 x.id, .slice A8 m8 c8, .int .i64 x.frm, .int .i64 x.to] 51)), p.now.cell? ⟨w7.heap.size, 3, none⟩ = some (.int .i64 x.to) := fun _ => Later.cell BX.out.lt BX.out.c3
      have zc4 : ∀ p : Later (w7.alloc (.cells #[.int .i64 x.id, .slice A8 m8 c8, .int .i64 x.frm, .int .i64 x.to] 51)), p.now.cell? ⟨b, off + k * 4, none⟩ = some (.int .i64 x.id) := fun _ => Later.cell hb2 k0
      have zc5 : ∀ p : Later (w7.alloc (.cells #[.int .i64 x.id, .slice A8 m8 c8, .int .i64 x.frm, .int .i64 x.to] 51)), p.now.cell? ⟨b, off + k * 4 + 1, none⟩ = some (.slice A7 m7 c7) := fun _ => Later.cell hb2 k1
      have zc6 : ∀ p : Later (w7.alloc (.cells #[.int .i64 x.id, .slice A8 m8 c8, .int .i64 x.frm, .int .i64 x.to] 51)), p.now.cell? ⟨b, off + k * 4 + 2, none⟩ = some (.int .i64 x.frm) := fun _ => Later.cell hb2 k2
      have zc7 : ∀ p : Later (w7.alloc (.cells #[.int .i64 x.id, .slice A8 m8 c8, .int .i64 x.frm, .int .i64 x.to] 51)), p.now.cell? ⟨b, off + k * 4 + 3, none⟩ = some (.int .i64 x.to) := fun _ => Later.cell hb2 k3
      refine wp_region_later (by kernel_rfl) (by kernel_rfl) ?_
      repeat (first | go_big_quiet_skip | (go_big_quiet_want; go_big_quiet_op; first | go_big_quiet_on | (apply Exists.intro; refine ⟨fun pz => ?_, ?_⟩; (first | (go_at_call 27; exact Calls.later_of (refOne_any (HX8.out.next pz.bel) (HX9.out.next pz.bel) (sameH_eqS _))) | fail); go_big_quiet_on)))
      refine wpQuiet_nil ?_
      intro _ hw'
      obtain ⟨pz, rfl⟩ := hw'
      obtain ⟨w9, hb⟩ := pz
      try dsimp only
      clear zc0 zc1 zc2 zc3 zc4 zc5 zc6 zc7
      have HBNq := Lib.hid (HBN.out.trans (hb.mono HBN.out.size))
      clear HBN
      have HBN := HBNq
      clear HBNq
      have HX8q := Lib.hid (HX8.out.next hb)
      clear HX8
      have HX8 := HX8q
      clear HX8q
      have HX9q := Lib.hid (HX9.out.next hb)
      clear HX9
      have HX9 := HX9q
      clear HX9q
      clear hb
      clear k0 k1 k2 k3 hb2
      go_wp2
      go_roundw
      case rel => exact ⟨k + 1, by omega, by go_num, HBN.out⟩
      case measure => simp [intOf] <;> omega
    · clear TA6 TP6
      go_wp2_with fail
      clear hlt hk
      go_loopw [18] (fun iv wr2 => ∃ (k : Nat), k ≤ L ∧ iv = .int .i64 k ∧ Below w4.heap.size w4 wr2) (fun iv _ => L - (intOf iv).toNat)
      case atStart => exact ⟨0, Nat.zero_le _, rfl, HBL.out⟩
      case round =>
        clear HBL
        obtain ⟨k, hk, rfl, hbel⟩ := hrel
        have HBL := Lib.hid hbel
        have HGL6 := Lib.hid (HG4.out.next hbel)
        have TA6 := Lib.hid (TA4.out.next hbel)
        have TP6 := Lib.hid (TP5.out.next hbel)
        have UA6 := Lib.hid (UA4.out.next hbel)
        have WA6 := Lib.hid (WA4.out.next hbel)
        clear hbel
        by_cases hlt : k < L
        · have hkl : k < P.length := by rw [HLL.out]; exact hlt
          obtain ⟨b, off, A7, m7, c7, hA41, hb1, c0, c1, c2, c3, hh⟩ := TP6.out.reads.one hlt
          subst hA41
          obtain ⟨y, hy⟩ : ∃ y, P.getD k hd0 = y := ⟨_, rfl⟩
          have hyP : y ∈ P := by rw [← hy, List.getD, List.getElem?_eq_getElem hkl]; exact List.getElem_mem hkl
          rw [hy] at hh c0 c2 c3
          have HYI := Lib.hid hh.int
          have HYK := Lib.hid hy
          obtain ⟨z, hz⟩ : ∃ z, getT l y.id = z := ⟨_, rfl⟩
          obtain ⟨bb, hbb⟩ : ∃ v, gotT l y.id = v := ⟨_, rfl⟩
          have HZ1 := Lib.hid hz
          have HZ2 := Lib.hid hbb
          have HNW : Hid (bb = false → NewS g use ws t u y) := Lib.hid (fun h => by
            rcases HKP.out.new y hyP with h1 | h1
            · rw [← hbb, got_is HLR.out, has_iff_id.2 ⟨y, h1, rfl⟩] at h; cases h
            · exact h1)
          clear hy hyP hkl hh hz hbb
          go_wp2_with fail
          refine (h10_get HD TA6.out HF.out HZ1.out HZ2.out).mono ?_
          rintro e w7 ⟨⟨A8, m8, c8, rfl, _⟩, hb⟩
          have hba : Below w7.heap.size w7 (w7.alloc (.cells #[.int .i64 z.id, .slice A8 m8 c8, .int .i64 z.frm, .int .i64 z.to] 51)) := (Below.refl _ _).alloc (Nat.le_refl _) _
          have hbc := hb.trans (hba.mono hb.size)
          have HG7 := Lib.hid (HGL6.out.next hbc)
          have TP7 := Lib.hid (TP6.out.next hbc)
          have UA7 := Lib.hid (UA6.out.next hbc)
          have WA7 := Lib.hid (WA6.out.next hbc)
          have HBN := Lib.hid (HBL.out.trans (hbc.mono HBL.out.size))
          clear hb hba hbc c0 c1 c2 c3 hb1 TA6 TP6 UA6 WA6 HZ1 HZ2 HGL6 HBL
          cases bb with
          | true =>
            clear HNW
            go_wp2_with fail
            go_roundw
            case rel => exact ⟨k + 1, by omega, by go_num, HBN.out⟩
            case measure => simp [intOf] <;> omega
          | false =>
            have HNS := Lib.hid (HNW.out rfl)
            clear HNW
            go_wp2_with fail
            go_loopw [21, 22] (fun fv jv wi => ∃ (j : Nat) (fb : Bool), j ≤ n4 ∧ jv = .int .i64 j ∧ fv = .bool fb ∧ (fb = true ↔ ∃ q, q < j ∧ (ws.getD q wn0).id = y.id ∧ endsS (ws.getD q wn0).spec y.frm = y.to) ∧ Below (w7.alloc (.cells #[.int .i64 z.id, .slice A8 m8 c8, .int .i64 z.frm, .int .i64 z.to] 51)).heap.size (w7.alloc (.cells #[.int .i64 z.id, .slice A8 m8 c8, .int .i64 z.frm, .int .i64 z.to] 51)) wi) (fun _ jv _ => n4 - (intOf jv).toNat)
            case atStart => exact ⟨0, false, Nat.zero_le _, rfl, rfl, ⟨fun h => (by cases h), fun ⟨q, hq, _⟩ => (by omega)⟩, Below.refl _ _⟩
            case round =>
              obtain ⟨j, fb, hj, rfl, rfl, hfb, hbi⟩ := hrel
              have HFB := Lib.hid hfb
              have HBI := Lib.hid hbi
              have HG8 := Lib.hid (HG7.out.next hbi)
              have TP8 := Lib.hid (TP7.out.next hbi)
              have UA8 := Lib.hid (UA7.out.next hbi)
              have WA8 := Lib.hid (WA7.out.next hbi)
              clear hfb hbi
              obtain ⟨b', off', A7, m7, c7, eA, hb1, c0, c1, c2, c3, hh⟩ := TP8.out.reads.one hlt
              injection eA with eA
              injection eA with eB eO _
              subst eB eO
              rw [HYK.out] at hh c0 c2 c3
              have HX7 := Lib.hid hh
              clear hh
              by_cases hjlt : j < n4
              · obtain ⟨bw, offw, rfl, hbw, ⟨e0, e1, e2, e3, e4, e5, e6, e7⟩, hxs, hxi⟩ := WA8.out.one hjlt
                obtain ⟨x, hx⟩ : ∃ x, ws.getD j wn0 = x := ⟨_, rfl⟩
                rw [hx] at e0 e1 e2 e3 e4 e5 e6 e7 hxs
                have HXJ := Lib.hid hx
                have HXS := Lib.hid hxs
                clear hx hxs hxi
                have HNE : Hid (∀ v : Bool, (v = true ↔ x.id = y.id ∧ endsS x.spec y.frm = y.to) → ((fb || v) = true ↔ ∃ q, q < j + 1 ∧ (ws.getD q wn0).id = y.id ∧ endsS (ws.getD q wn0).spec y.frm = y.to)) := Lib.hid (fun v hvv => by
                  rw [Bool.or_eq_true, HFB.out, hvv]
                  constructor
                  · rintro (⟨q, h1, h2⟩ | h1)
                    · exact ⟨q, by omega, h2⟩
                    · exact ⟨j, Nat.lt_succ_self j, by rw [HXJ.out]; exact h1⟩
                  · rintro ⟨q, h1, h2⟩
                    by_cases hq : q = j
                    · rw [hq, HXJ.out] at h2; exact .inr h2
                    · exact .inl ⟨q, by omega, h2⟩)
                cases fb with
                | true =>
                  have HN2 : Hid (∃ q, q < j + 1 ∧ (ws.getD q wn0).id = y.id ∧ endsS (ws.getD q wn0).spec y.frm = y.to) := Lib.hid (by
                    obtain ⟨q, h1, h2⟩ := HFB.out.1 rfl
                    exact ⟨q, by omega, h2⟩)
                  go_wp2_with fail
                  refine wp_region_later (by kernel_rfl) (by kernel_rfl) ?_
                  repeat (first | go_big_quiet_skip | (go_big_quiet_want; go_big_quiet_op; first | go_big_quiet_on | (apply Exists.intro; refine ⟨fun pz => ?_, ?_⟩; (fail); go_big_quiet_on)))
                  refine wpQuiet_nil ?_
                  intro _ hw'
                  obtain ⟨pz, rfl⟩ := hw'
                  obtain ⟨w10, hb⟩ := pz
                  try dsimp only
                  have HBIq := Lib.hid (HBI.out.trans (hb.mono HBI.out.size))
                  clear HBI
                  have HBI := HBIq
                  clear HBIq
                  clear hb
                  clear e0 e1 e2 e3 e4 e5 e6 e7 c0 c1 c2 c3 hb1 hbw
                  go_wp2_with fail
                  go_roundw
                  case rel => exact ⟨j + 1, true, by omega, by go_num, rfl, ⟨fun _ => HN2.out, fun _ => rfl⟩, HBI.out⟩
                  case measure => simp [intOf] <;> omega
                | false =>
                  by_cases p1 : x.id = y.id
                  · have d1 : (x.id == y.id) = true := beq_iff_eq.2 p1
                    obtain ⟨ee, hee⟩ : ∃ v, endsS x.spec y.frm = v := ⟨_, rfl⟩
                    have HEE := Lib.hid hee
                    obtain ⟨vv, hvv⟩ : ∃ v, (ee == y.to) = v := ⟨_, rfl⟩
                    have HN2 := Lib.hid (HNE.out vv (by rw [← hvv, beq_iff_eq, hee]; exact ⟨fun h => ⟨p1, h⟩, fun h => h.2⟩))
                    rw [Bool.false_or] at HN2
                    clear p1 hee
                    go_wp2_with fail
                    have zc0 : ∀ p : Later wr, p.now.cell? ⟨bw, offw + j * 8, none⟩ = some (.int .i64 x.id) := fun _ => Later.cell hbw e0
                    have zc1 : ∀ p : Later wr, p.now.cell? ⟨bw, offw + j * 8 + 1, none⟩ = some (.int .i64 x.spec.nodes) := fun _ => Later.cell hbw e1
                    have zc2 : ∀ p : Later wr, p.now.cell? ⟨bw, offw + j * 8 + 2, none⟩ = some (.int .i64 x.spec.cores) := fun _ => Later.cell hbw e2
                    have zc3 : ∀ p : Later wr, p.now.cell? ⟨bw, offw + j * 8 + 3, none⟩ = some (.int .i64 x.spec.gpus) := fun _ => Later.cell hbw e3
                    have zc4 : ∀ p : Later wr, p.now.cell? ⟨bw, offw + j * 8 + 4, none⟩ = some (.string x.spec.tag) := fun _ => Later.cell hbw e4
                    have zc5 : ∀ p : Later wr, p.now.cell? ⟨bw, offw + j * 8 + 5, none⟩ = some (.bool x.spec.whole) := fun _ => Later.cell hbw e5
                    have zc6 : ∀ p : Later wr, p.now.cell? ⟨bw, offw + j * 8 + 6, none⟩ = some (.int .i64 x.spec.long) := fun _ => Later.cell hbw e6
                    have zc7 : ∀ p : Later wr, p.now.cell? ⟨bw, offw + j * 8 + 7, none⟩ = some (.int .i64 x.spec.prio) := fun _ => Later.cell hbw e7
                    have zc8 : ∀ p : Later wr, p.now.cell? ⟨b, off + k * 4, none⟩ = some (.int .i64 y.id) := fun _ => Later.cell hb1 c0
                    have zc9 : ∀ p : Later wr, p.now.cell? ⟨b, off + k * 4 + 2, none⟩ = some (.int .i64 y.frm) := fun _ => Later.cell hb1 c2
                    have zc10 : ∀ p : Later wr, p.now.cell? ⟨b, off + k * 4 + 3, none⟩ = some (.int .i64 y.to) := fun _ => Later.cell hb1 c3
                    refine wp_region_later (by kernel_rfl) (by kernel_rfl) ?_
                    repeat (first | go_big_quiet_skip | (go_big_quiet_want; go_big_quiet_op; first | go_big_quiet_on | (apply Exists.intro; refine ⟨fun pz => ?_, ?_⟩; (first | (go_at_call 19; exact Calls.later_of (s7_ends HSP HXS.out (HG8.out.next pz.bel) HYI.out.2.1 HEE.out)) | fail); go_big_quiet_on)))
                    refine wpQuiet_nil ?_
                    intro _ hw'
                    obtain ⟨pz, rfl⟩ := hw'
                    obtain ⟨w10, hb⟩ := pz
                    try dsimp only
                    clear zc0 zc1 zc2 zc3 zc4 zc5 zc6 zc7 zc8 zc9 zc10
                    have HBIq := Lib.hid (HBI.out.trans (hb.mono HBI.out.size))
                    clear HBI
                    have HBI := HBIq
                    clear HBIq
                    have HG8q := Lib.hid (HG8.out.next hb)
                    clear HG8
                    have HG8 := HG8q
                    clear HG8q
                    clear hb
                    clear e0 e1 e2 e3 e4 e5 e6 e7 c0 c1 c2 c3 hb1 hbw
                    go_wp2_with fail
                    go_roundw
                    case rel => exact ⟨j + 1, vv, by omega, by go_num, rfl, HN2.out, HBI.out⟩
                    case measure => simp [intOf] <;> omega
                  · have d1 : (x.id == y.id) = false := beq_eq_false_iff_ne.2 p1
                    have HN2 := Lib.hid (HNE.out false ⟨fun h => (by cases h), fun h => absurd h.1 p1⟩)
                    rw [Bool.false_or] at HN2
                    clear p1
                    go_wp2_with fail
                    have zc0 : ∀ p : Later wr, p.now.cell? ⟨bw, offw + j * 8, none⟩ = some (.int .i64 x.id) := fun _ => Later.cell hbw e0
                    have zc1 : ∀ p : Later wr, p.now.cell? ⟨b, off + k * 4, none⟩ = some (.int .i64 y.id) := fun _ => Later.cell hb1 c0
                    refine wp_region_later (by kernel_rfl) (by kernel_rfl) ?_
                    repeat (first | go_big_quiet_skip | (go_big_quiet_want; go_big_quiet_op; first | go_big_quiet_on | (apply Exists.intro; refine ⟨fun pz => ?_, ?_⟩; (fail); go_big_quiet_on)))
                    refine wpQuiet_nil ?_
                    intro _ hw'
                    obtain ⟨pz, rfl⟩ := hw'
                    obtain ⟨w10, hb⟩ := pz
                    try dsimp only
                    clear zc0 zc1
                    have HBIq := Lib.hid (HBI.out.trans (hb.mono HBI.out.size))
                    clear HBI
                    have HBI := HBIq
                    clear HBIq
                    clear hb
                    clear e0 e1 e2 e3 e4 e5 e6 e7 c0 c1 c2 c3 hb1 hbw
                    go_wp2_with fail
                    go_roundw
                    case rel => exact ⟨j + 1, false, by omega, by go_num, rfl, HN2.out, HBI.out⟩
                    case measure => simp [intOf] <;> omega
              · have hft : fb = true := by
                  obtain ⟨q, h1, h2⟩ := HNS.out.1
                  exact HFB.out.2 ⟨q, by rw [HWL.out] at h1; omega, h2⟩
                subst hft
                have d2 : decide (u < y.to) = false := decide_eq_false (by have := HNS.out.2.2.1; omega)
                have d3 : decide (y.frm < t) = false := decide_eq_false (by have := HNS.out.2.2.2.1; omega)
                go_wp2_with fail
                refine (part_c HPA HX7.out.reads UA8.out.reads HX7.out.few HULM.out HNS.out.2.1).mono ?_
                rintro e w10 ⟨rfl, hb⟩
                have HBO := Lib.hid (HBN.out.trans ((HBI.out.trans (hb.mono HBI.out.size)).mono HBN.out.size))
                have k2 := keep_cell hb1 c2 hb
                have k3 := keep_cell hb1 c3 hb
                clear c0 c1 c2 c3 hb1 hb
                go_wp2_with fail
                go_roundw
                case rel => exact ⟨k + 1, by omega, by go_num, HBO.out⟩
                case measure => simp [intOf] <;> omega
        · have HBZ : Hid (Below w.heap.size w wr) := Lib.hid (HB4.out.trans (HBL.out.mono HB4.out.size))
          go_wp2_with fail
          go_ret
          exact ⟨rfl, HBZ.out⟩
theorem slotKeeps_walk (H : SlotOk) (HD : HeldOk) (HSP : SpecOk) (HPA : PartOk) (A : Option Addr) (n c : Nat) (g : Gr) (A2 : Option Addr) (n2 c2 : Nat) (use : List Int) (A3 : Option Addr) (n3 c3 : Nat) (l : Tb) (A4 : Option Addr) (n4 c4 : Nat) (ws : List Wn) (t u : Int) (w : World) (hr : RG w w.heap.size A n g) (hnil : A = none → c = 0) (hnc : n ≤ c) (_hn : n ≤ maxLen) (hr2 : RI w w.heap.size A2 n2 use) (hj2 : ∀ x ∈ use, I64 x) (hnil2 : A2 = none → c2 = 0) (hnc2 : n2 ≤ c2) (_hn2 : n2 ≤ maxLen) (hl : TAsk w A3 n3 c3 l) (hw : WnAsk w A4 n4 c4 ws) (ht : I64 t) (hv : I64 u) (hG : Glob w) : Calls Tryz.prog 6 #[.slice A n c, .slice A2 n2 c2, .slice A3 n3 c3, .slice A4 n4 c4, .int .i64 t, .int .i64 u] w fun e w' => e = .returned (.bool true) ∧ Below w.heap.size w w' := by
  cases hsm : decide (SmallS n n2 n3 l n4) with
  | false => exact slotKeeps_no H HD HSP HPA A n c g A2 n2 c2 use A3 n3 c3 l A4 n4 c4 t u w hl hsm hG
  | true =>
    have h := of_decide_eq_true hsm
    unfold SmallS at h
    by_cases he : planE g use l ws t u = 0
    · exact slotKeeps_ok H HD HSP HPA ⟨hr, hnil, hnc, by omega⟩ ⟨hr2, hnil2, hnc2, by omega, hj2⟩ hl (short_fewS h.2.2.2.1) hw ht hv hsm hG he
    · exact slotKeeps_err H ⟨hr, hnil, hnc, by omega⟩ ⟨hr2, hnil2, hnc2, by omega, hj2⟩ hl (short_fewS h.2.2.2.1) hw ht hv hsm hG he

end Go.Proofs.YtpoalgkgomljmaaGreatDoor
