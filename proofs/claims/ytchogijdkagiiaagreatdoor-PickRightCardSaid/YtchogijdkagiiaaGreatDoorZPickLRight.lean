/- PickRight of layer 14, as a walk over the contracts. Written by gen/gen_pick.py. -/
import Derived.Deep.QuietTactic
import Derived.Test.YtchogijdkagiiaaGreatDoorMg08
import Derived.Test.YtchogijdkagiiaaGreatDoorZPickRefAll
namespace Go.Proofs.YtchogijdkagiiaaGreatDoor
open Go.RowKit

set_option maxRecDepth 100000 in
set_option maxHeartbeats 8000000 in
theorem pickRight_n0 (H : PickOk) (A : Option Addr) (n c : Nat) (_g : Gr) (A2 : Option Addr) (n2 c2 : Nat) (_use : List Int) (A3 : Option Addr) (n3 c3 : Nat) (l : Tb) (A4 : Option Addr) (n4 c4 : Nat) (A5 : Option Addr) (n5 c5 : Nat) (l5 : Tb) (s : Sp) (t u p d : Int) (w : World) (hl : TAsk w A3 n3 c3 l) (hl5 : TAsk w A5 n5 c5 l5) (hG : Glob w) (hs : decide (SmallS n n2 n3 l n4) = false) : Calls Tryz.prog 3 #[.slice A n c, .slice A2 n2 c2, .slice A3 n3 c3, .slice A5 n5 c5, .slice A4 n4 c4, .agg #[.int .i64 s.nodes, .int .i64 s.cores, .int .i64 s.gpus, .string s.tag, .bool s.whole, .int .i64 s.long, .int .i64 s.prio], .int .i64 t, .int .i64 u, .int .i64 p, .int .i64 d] w fun e w' => e = .returned (.bool true) ∧ Below w.heap.size w w' := by
  have hba : Below w.heap.size w (w.alloc (.cells #[.int .i64 s.nodes, .int .i64 s.cores, .int .i64 s.gpus, .string s.tag, .bool s.whole, .int .i64 s.long, .int .i64 s.prio] 27)) := (Below.refl _ _).alloc (Nat.le_refl _) _
  have HB := Lib.hid hba
  have HG := Lib.hid (hG.next hba)
  have TA := Lib.hid (hl.next hba)
  have TO := Lib.hid (hl5.next hba)
  have HSM := Lib.hid hs
  clear hs
  clear hba hG hl hl5
  go_enter Tryz.func3, Tryz.ntmps3
  go_wp2_with fail
  refine (awake14_any H _ HG.out).mono ?_
  rintro e w1 ⟨rfl, hb⟩
  replace HB := Lib.hid (HB.out.trans (hb.mono HB.out.size))
  replace HG := Lib.hid (HG.out.next hb)
  replace TA := Lib.hid (TA.out.next hb)
  replace TO := Lib.hid (TO.out.next hb)
  clear hb
  go_wp2_with fail
  refine (smallP_b TA.out HSM.out).mono ?_
  rintro e w2 ⟨rfl, hb⟩
  replace HB := Lib.hid (HB.out.trans (hb.mono HB.out.size))
  replace HG := Lib.hid (HG.out.next hb)
  replace TA := Lib.hid (TA.out.next hb)
  replace TO := Lib.hid (TO.out.next hb)
  clear hb
  go_wp2
  go_ret
  exact ⟨rfl, HB.out⟩
set_option maxRecDepth 100000 in
set_option maxHeartbeats 8000000 in
theorem pickRight_n1 (H : PickOk) (A : Option Addr) (n c : Nat) (_g : Gr) (A2 : Option Addr) (n2 c2 : Nat) (_use : List Int) (A3 : Option Addr) (n3 c3 : Nat) (l : Tb) (A4 : Option Addr) (n4 c4 : Nat) (A5 : Option Addr) (n5 c5 : Nat) (l5 : Tb) (s : Sp) (t u p d : Int) (w : World) (hl : TAsk w A3 n3 c3 l) (hl5 : TAsk w A5 n5 c5 l5) (hG : Glob w) (hs : decide (SmallS n n2 n3 l n4) = true) (h5 : 12 < n5) : Calls Tryz.prog 3 #[.slice A n c, .slice A2 n2 c2, .slice A3 n3 c3, .slice A5 n5 c5, .slice A4 n4 c4, .agg #[.int .i64 s.nodes, .int .i64 s.cores, .int .i64 s.gpus, .string s.tag, .bool s.whole, .int .i64 s.long, .int .i64 s.prio], .int .i64 t, .int .i64 u, .int .i64 p, .int .i64 d] w fun e w' => e = .returned (.bool true) ∧ Below w.heap.size w w' := by
  have hba : Below w.heap.size w (w.alloc (.cells #[.int .i64 s.nodes, .int .i64 s.cores, .int .i64 s.gpus, .string s.tag, .bool s.whole, .int .i64 s.long, .int .i64 s.prio] 27)) := (Below.refl _ _).alloc (Nat.le_refl _) _
  have HB := Lib.hid hba
  have HG := Lib.hid (hG.next hba)
  have TA := Lib.hid (hl.next hba)
  have TO := Lib.hid (hl5.next hba)
  have HSM := Lib.hid hs
  clear hs
  have d5 : decide ((12 : Int) < (n5 : Int)) = true := decide_eq_true (by omega)
  have d5n : decide (12 < n5) = true := decide_eq_true h5
  clear hba hG hl hl5
  go_enter Tryz.func3, Tryz.ntmps3
  go_wp2_with fail
  refine (awake14_any H _ HG.out).mono ?_
  rintro e w1 ⟨rfl, hb⟩
  replace HB := Lib.hid (HB.out.trans (hb.mono HB.out.size))
  replace HG := Lib.hid (HG.out.next hb)
  replace TA := Lib.hid (TA.out.next hb)
  replace TO := Lib.hid (TO.out.next hb)
  clear hb
  go_wp2_with fail
  refine (smallP_b TA.out HSM.out).mono ?_
  rintro e w2 ⟨rfl, hb⟩
  replace HB := Lib.hid (HB.out.trans (hb.mono HB.out.size))
  replace HG := Lib.hid (HG.out.next hb)
  replace TA := Lib.hid (TA.out.next hb)
  replace TO := Lib.hid (TO.out.next hb)
  clear hb
  go_wp2
  go_ret
  exact ⟨rfl, HB.out⟩
set_option maxRecDepth 100000 in
set_option maxHeartbeats 8000000 in
theorem pickRight_n2 (H : PickOk) (A : Option Addr) (n c : Nat) (_g : Gr) (A2 : Option Addr) (n2 c2 : Nat) (_use : List Int) (A3 : Option Addr) (n3 c3 : Nat) (l : Tb) (A4 : Option Addr) (n4 c4 : Nat) (A5 : Option Addr) (n5 c5 : Nat) (l5 : Tb) (s : Sp) (t u p d : Int) (w : World) (hl : TAsk w A3 n3 c3 l) (hl5 : TAsk w A5 n5 c5 l5) (hG : Glob w) (hs : decide (SmallS n n2 n3 l n4) = true) (h5 : ¬ 12 < n5) (h6 : shortT l5 = false) : Calls Tryz.prog 3 #[.slice A n c, .slice A2 n2 c2, .slice A3 n3 c3, .slice A5 n5 c5, .slice A4 n4 c4, .agg #[.int .i64 s.nodes, .int .i64 s.cores, .int .i64 s.gpus, .string s.tag, .bool s.whole, .int .i64 s.long, .int .i64 s.prio], .int .i64 t, .int .i64 u, .int .i64 p, .int .i64 d] w fun e w' => e = .returned (.bool true) ∧ Below w.heap.size w w' := by
  have hba : Below w.heap.size w (w.alloc (.cells #[.int .i64 s.nodes, .int .i64 s.cores, .int .i64 s.gpus, .string s.tag, .bool s.whole, .int .i64 s.long, .int .i64 s.prio] 27)) := (Below.refl _ _).alloc (Nat.le_refl _) _
  have HB := Lib.hid hba
  have HG := Lib.hid (hG.next hba)
  have TA := Lib.hid (hl.next hba)
  have TO := Lib.hid (hl5.next hba)
  have HSM := Lib.hid hs
  have HSH := Lib.hid h6
  clear hs h6
  have d5 : decide ((12 : Int) < (n5 : Int)) = false := decide_eq_false (by omega)
  have d5n : decide (12 < n5) = false := decide_eq_false h5
  clear hba hG hl hl5
  go_enter Tryz.func3, Tryz.ntmps3
  go_wp2_with fail
  refine (awake14_any H _ HG.out).mono ?_
  rintro e w1 ⟨rfl, hb⟩
  replace HB := Lib.hid (HB.out.trans (hb.mono HB.out.size))
  replace HG := Lib.hid (HG.out.next hb)
  replace TA := Lib.hid (TA.out.next hb)
  replace TO := Lib.hid (TO.out.next hb)
  clear hb
  go_wp2_with fail
  refine (smallP_b TA.out HSM.out).mono ?_
  rintro e w2 ⟨rfl, hb⟩
  replace HB := Lib.hid (HB.out.trans (hb.mono HB.out.size))
  replace HG := Lib.hid (HG.out.next hb)
  replace TA := Lib.hid (TA.out.next hb)
  replace TO := Lib.hid (TO.out.next hb)
  clear hb
  go_wp2_with fail
  refine (short_b TO.out HSH.out).mono ?_
  rintro e w3 ⟨rfl, hb⟩
  replace HB := Lib.hid (HB.out.trans (hb.mono HB.out.size))
  replace HG := Lib.hid (HG.out.next hb)
  replace TA := Lib.hid (TA.out.next hb)
  replace TO := Lib.hid (TO.out.next hb)
  clear hb
  go_wp2
  go_ret
  exact ⟨rfl, HB.out⟩
set_option maxRecDepth 100000 in
set_option maxHeartbeats 8000000 in
theorem pickRight_yes (H : PickOk) {A : Option Addr} {n c : Nat} {g : Gr} {A2 : Option Addr} {n2 c2 : Nat} {use : List Int} {A3 : Option Addr} {n3 c3 : Nat} {l : Tb} {A4 : Option Addr} {n4 c4 : Nat} {ws : List Wn} {A5 : Option Addr} {n5 c5 : Nat} {l5 : Tb} {s : Sp} {t u p d : Int} {w : World} (hg : GAsk w A n c g) (hu : LAsk w A2 n2 c2 use) (hl : TAsk w A3 n3 c3 l) (hf : FewT l) (hw : WnAsk w A4 n4 c4 ws) (hl5 : TAsk w A5 n5 c5 l5) (hs : SAsk s) (ht : I64 t) (hv : I64 u) (hp : I64 p) (hd : I64 d) (hsm : decide (SmallS n n2 n3 l n4) = true) (h5 : ¬ 12 < n5) (h6 : shortT l5 = true) (hG : Glob w) : Calls Tryz.prog 3 #[.slice A n c, .slice A2 n2 c2, .slice A3 n3 c3, .slice A5 n5 c5, .slice A4 n4 c4, .agg #[.int .i64 s.nodes, .int .i64 s.cores, .int .i64 s.gpus, .string s.tag, .bool s.whole, .int .i64 s.long, .int .i64 s.prio], .int .i64 t, .int .i64 u, .int .i64 p, .int .i64 d] w fun e w' => e = .returned (.bool true) ∧ Below w.heap.size w w' := by
  have hwl8 : ws.length = n4 := hw.len
  have hba : Below w.heap.size w (w.alloc (.cells #[.int .i64 s.nodes, .int .i64 s.cores, .int .i64 s.gpus, .string s.tag, .bool s.whole, .int .i64 s.long, .int .i64 s.prio] 27)) := (Below.refl _ _).alloc (Nat.le_refl _) _
  have HB := Lib.hid hba
  have HG := Lib.hid (hG.next hba)
  have TA := Lib.hid (hl.next hba)
  have TO := Lib.hid (hl5.next hba)
  have GA := Lib.hid (hg.next hba)
  have UA := Lib.hid (hu.next hba)
  have WA := Lib.hid (hw.next hba)
  have BS : Hid (BoxS (w.alloc (.cells #[.int .i64 s.nodes, .int .i64 s.cores, .int .i64 s.gpus, .string s.tag, .bool s.whole, .int .i64 s.long, .int .i64 s.prio] 27)) w.heap.size s) := Lib.hid (box_new w s)
  have HF := Lib.hid hf
  have HF5 := Lib.hid (short_fewS h6)
  have HS := Lib.hid hs
  have HT := Lib.hid ht
  have HV := Lib.hid hv
  have HP := Lib.hid hp
  have HD := Lib.hid hd
  have HSM := Lib.hid hsm
  have HSH := Lib.hid h6
  have hsp := of_decide_eq_true hsm
  unfold SmallS at hsp
  have HN60 : Hid (n ≤ 60) := Lib.hid (by omega)
  have HN61 : Hid (n3 + n4 ≤ 60) := Lib.hid (by omega)
  have hwl : ws.length ≤ 8 := by omega
  have d5 : decide ((12 : Int) < (n5 : Int)) = false := decide_eq_false (by omega)
  have d5n : decide (12 < n5) = false := decide_eq_false h5
  obtain ⟨a, j3⟩ : ∃ x, (pickA g use l ws t u p d).1 = x := ⟨_, rfl⟩
  obtain ⟨ka, i3⟩ : ∃ x, (pickA g use l ws t u p d).2.1 = x := ⟨_, rfl⟩
  obtain ⟨ea, g3⟩ : ∃ x, (pickA g use l ws t u p d).2.2 = x := ⟨_, rfl⟩
  have P3 : Hid (pickA g use l ws t u p d = (a, ka, ea)) := Lib.hid (by rw [← j3, ← i3, ← g3])
  have L3 : Hid (a.length + ka.length ≤ 8) := Lib.hid (by have := @pickA_len g use ws t u p d l; rw [j3, i3] at this; omega)
  have M3 : Hid (a.length ≤ maxLen ∧ ka.length ≤ maxLen) := Lib.hid (by have := L3.out; unfold maxLen; omega)
  have HRP : Hid (∀ W, GAsk W A n c g → LAsk W A2 n2 c2 use → TAsk W A3 n3 c3 l → WnAsk W A4 n4 c4 ws → Glob W → Calls Tryz.prog 13 #[.slice A n c, .slice A2 n2 c2, .slice A3 n3 c3, .slice A4 n4 c4, .int .i64 t, .int .i64 u, .int .i64 p, .int .i64 d] W (PKPost a ka ea W)) := Lib.hid (fun W h1 h2 h3 h4 h5 => by
    have := refPick_any (p := p) (d := d) h1 h2 h3 HF.out h4 HN60.out HN61.out HT.out HV.out h5
    rw [j3, i3, g3] at this; exact this)
  obtain ⟨lb, hlb⟩ : ∃ x, laterA g use l l5 s t u = x := ⟨_, rfl⟩
  have HLA := Lib.hid hlb
  have HRL : Hid (∀ W, GAsk W A n c g → LAsk W A2 n2 c2 use → TAsk W A3 n3 c3 l → TAsk W A5 n5 c5 l5 → Glob W → Calls Tryz.prog 16 #[.slice A n c, .slice A2 n2 c2, .slice A3 n3 c3, .slice A5 n5 c5, .agg #[.int .i64 s.nodes, .int .i64 s.cores, .int .i64 s.gpus, .string s.tag, .bool s.whole, .int .i64 s.long, .int .i64 s.prio], .int .i64 t, .int .i64 u] W fun e w' => e = .returned (.bool lb) ∧ Below W.heap.size W w') := Lib.hid (fun W h1 h2 h3 h4 h5 => by
    have := refPickLater_any (s := s) (t := t) (u := u) h1 h2 h3 h4 HS.out HT.out HV.out h5
    rw [HLA.out] at this; exact this)
  clear hba hG hg hu hl hf hw hl5 hs ht hv hp hd hsm hsp hwl hwl8 h6 j3 i3 g3 hlb
  go_enter Tryz.func3, Tryz.ntmps3
  go_wp2_with fail
  refine (awake14_any H _ HG.out).mono ?_
  rintro e w1 ⟨rfl, hb⟩
  replace HB := Lib.hid (HB.out.trans (hb.mono HB.out.size))
  replace HG := Lib.hid (HG.out.next hb)
  replace GA := Lib.hid (GA.out.next hb)
  replace UA := Lib.hid (UA.out.next hb)
  replace TA := Lib.hid (TA.out.next hb)
  replace TO := Lib.hid (TO.out.next hb)
  replace WA := Lib.hid (WA.out.next hb)
  replace BS := Lib.hid (BS.out.next hb)
  clear hb
  go_wp2_with fail
  refine (smallP_b TA.out HSM.out).mono ?_
  rintro e w2 ⟨rfl, hb⟩
  replace HB := Lib.hid (HB.out.trans (hb.mono HB.out.size))
  replace HG := Lib.hid (HG.out.next hb)
  replace GA := Lib.hid (GA.out.next hb)
  replace UA := Lib.hid (UA.out.next hb)
  replace TA := Lib.hid (TA.out.next hb)
  replace TO := Lib.hid (TO.out.next hb)
  replace WA := Lib.hid (WA.out.next hb)
  replace BS := Lib.hid (BS.out.next hb)
  clear hb
  go_wp2_with fail
  refine (short_b TO.out HSH.out).mono ?_
  rintro e w3 ⟨rfl, hb⟩
  replace HB := Lib.hid (HB.out.trans (hb.mono HB.out.size))
  replace HG := Lib.hid (HG.out.next hb)
  replace GA := Lib.hid (GA.out.next hb)
  replace UA := Lib.hid (UA.out.next hb)
  replace TA := Lib.hid (TA.out.next hb)
  replace TO := Lib.hid (TO.out.next hb)
  replace WA := Lib.hid (WA.out.next hb)
  replace BS := Lib.hid (BS.out.next hb)
  clear hb
  go_wp2_with fail
  refine (p14_pick H GA.out UA.out TA.out HF.out WA.out HN60.out HN61.out HT.out HV.out HP.out HD.out HG.out P3.out).mono ?_
  rintro e w4 ⟨⟨A31, c31, A32, c32, rfl, ⟨hr3, hn3, hc3⟩, ⟨kr3, kn3, kc3⟩⟩, hb⟩
  replace HB := Lib.hid (HB.out.trans (hb.mono HB.out.size))
  replace HG := Lib.hid (HG.out.next hb)
  replace GA := Lib.hid (GA.out.next hb)
  replace UA := Lib.hid (UA.out.next hb)
  replace TA := Lib.hid (TA.out.next hb)
  replace TO := Lib.hid (TO.out.next hb)
  replace WA := Lib.hid (WA.out.next hb)
  replace BS := Lib.hid (BS.out.next hb)
  clear hb
  have RA := Lib.hid (ans_ask hr3 hn3 hc3 M3.out.1)
  have RB := Lib.hid (ans_ask kr3 kn3 kc3 M3.out.2)
  clear hr3 hn3 hc3 kr3 kn3 kc3
  go_wp2_with fail
  refine (HRP.out _ GA.out UA.out TA.out WA.out HG.out).mono ?_
  rintro e w5 ⟨⟨A41, c41, A42, c42, rfl, ⟨hr4, hn4, hc4⟩, ⟨kr4, kn4, kc4⟩⟩, hb⟩
  replace HB := Lib.hid (HB.out.trans (hb.mono HB.out.size))
  replace HG := Lib.hid (HG.out.next hb)
  replace GA := Lib.hid (GA.out.next hb)
  replace UA := Lib.hid (UA.out.next hb)
  replace TA := Lib.hid (TA.out.next hb)
  replace TO := Lib.hid (TO.out.next hb)
  replace WA := Lib.hid (WA.out.next hb)
  replace BS := Lib.hid (BS.out.next hb)
  replace RA := Lib.hid (RA.out.next hb)
  replace RB := Lib.hid (RB.out.next hb)
  clear hb
  have RC := Lib.hid (ans_ask hr4 hn4 hc4 M3.out.1)
  have RD := Lib.hid (ans_ask kr4 kn4 kc4 M3.out.2)
  clear hr4 hn4 hc4 kr4 kn4 kc4
  obtain ⟨na, za⟩ : ∃ z, a.length = z := ⟨_, rfl⟩
  rw [za] at RA RC ⊢
  clear za
  obtain ⟨nb, zb⟩ : ∃ z, ka.length = z := ⟨_, rfl⟩
  rw [zb] at RB RD ⊢
  clear zb
  go_wp2_with fail
  have zc0 : ∀ p : Later w5, p.now.cell? ⟨w.heap.size, 0, none⟩ = some (.int .i64 s.nodes) := fun _ => Later.cell BS.out.lt BS.out.c0
  have zc1 : ∀ p : Later w5, p.now.cell? ⟨w.heap.size, 1, none⟩ = some (.int .i64 s.cores) := fun _ => Later.cell BS.out.lt BS.out.c1
  have zc2 : ∀ p : Later w5, p.now.cell? ⟨w.heap.size, 2, none⟩ = some (.int .i64 s.gpus) := fun _ => Later.cell BS.out.lt BS.out.c2
  have zc3 : ∀ p : Later w5, p.now.cell? ⟨w.heap.size, 3, none⟩ = some (.string s.tag) := fun _ => Later.cell BS.out.lt BS.out.c3
  have zc4 : ∀ p : Later w5, p.now.cell? ⟨w.heap.size, 4, none⟩ = some (.bool s.whole) := fun _ => Later.cell BS.out.lt BS.out.c4
  have zc5 : ∀ p : Later w5, p.now.cell? ⟨w.heap.size, 5, none⟩ = some (.int .i64 s.long) := fun _ => Later.cell BS.out.lt BS.out.c5
  have zc6 : ∀ p : Later w5, p.now.cell? ⟨w.heap.size, 6, none⟩ = some (.int .i64 s.prio) := fun _ => Later.cell BS.out.lt BS.out.c6
  refine wp_region_later (by kernel_rfl) (by kernel_rfl) ?_
  repeat (first | go_big_quiet_skip | (go_big_quiet_want; go_big_quiet_op; first | go_big_quiet_on | (apply Exists.intro; refine ⟨fun pz => ?_, ?_⟩; (first | (go_at_call 14; with_reducible exact Calls.later_of (sameT_b (RA.out.next pz.bel) (RC.out.next pz.bel) (sameT_self _))) | (go_at_call 14; with_reducible exact Calls.later_of (sameT_b (RB.out.next pz.bel) (RD.out.next pz.bel) (sameT_self _))) | (go_at_call 15; exact Calls.later_of (p14_later H (GA.out.next pz.bel) (UA.out.next pz.bel) (TA.out.next pz.bel) HF.out (TO.out.next pz.bel) HF5.out HS.out HT.out HV.out (HG.out.next pz.bel) HLA.out)) | (go_at_call 16; exact Calls.later_of (HRL.out _ (GA.out.next pz.bel) (UA.out.next pz.bel) (TA.out.next pz.bel) (TO.out.next pz.bel) (HG.out.next pz.bel))) | fail); go_big_quiet_on)))
  refine wpQuiet_nil ?_
  intro _ hw'
  obtain ⟨pz, rfl⟩ := hw'
  obtain ⟨w6, hb⟩ := pz
  try dsimp only
  clear zc0 zc1 zc2 zc3 zc4 zc5 zc6
  replace HB := Lib.hid (HB.out.trans (hb.mono HB.out.size))
  replace HG := Lib.hid (HG.out.next hb)
  replace GA := Lib.hid (GA.out.next hb)
  replace UA := Lib.hid (UA.out.next hb)
  replace TA := Lib.hid (TA.out.next hb)
  replace TO := Lib.hid (TO.out.next hb)
  replace WA := Lib.hid (WA.out.next hb)
  replace BS := Lib.hid (BS.out.next hb)
  replace RA := Lib.hid (RA.out.next hb)
  replace RB := Lib.hid (RB.out.next hb)
  replace RC := Lib.hid (RC.out.next hb)
  replace RD := Lib.hid (RD.out.next hb)
  clear hb
  go_wp2
  go_ret
  exact ⟨rfl, HB.out⟩
theorem pickRight_walk (H : PickOk) (A : Option Addr) (n c : Nat) (g : Gr) (A2 : Option Addr) (n2 c2 : Nat) (use : List Int) (A3 : Option Addr) (n3 c3 : Nat) (l : Tb) (A4 : Option Addr) (n4 c4 : Nat) (ws : List Wn) (A5 : Option Addr) (n5 c5 : Nat) (l5 : Tb) (s : Sp) (t u p d : Int) (w : World) (hr : RG w w.heap.size A n g) (hnil : A = none → c = 0) (hnc : n ≤ c) (_hn : n ≤ maxLen) (hr2 : RI w w.heap.size A2 n2 use) (hj2 : ∀ x ∈ use, I64 x) (hnil2 : A2 = none → c2 = 0) (hnc2 : n2 ≤ c2) (_hn2 : n2 ≤ maxLen) (hl : TAsk w A3 n3 c3 l) (hl5 : TAsk w A5 n5 c5 l5) (hw : WnAsk w A4 n4 c4 ws) (hs : SAsk s) (ht : I64 t) (hv : I64 u) (hp : I64 p) (hd : I64 d) (hG : Glob w) : Calls Tryz.prog 3 #[.slice A n c, .slice A2 n2 c2, .slice A3 n3 c3, .slice A5 n5 c5, .slice A4 n4 c4, .agg #[.int .i64 s.nodes, .int .i64 s.cores, .int .i64 s.gpus, .string s.tag, .bool s.whole, .int .i64 s.long, .int .i64 s.prio], .int .i64 t, .int .i64 u, .int .i64 p, .int .i64 d] w fun e w' => e = .returned (.bool true) ∧ Below w.heap.size w w' := by
  cases hsm : decide (SmallS n n2 n3 l n4) with
  | false => exact pickRight_n0 H A n c g A2 n2 c2 use A3 n3 c3 l A4 n4 c4 A5 n5 c5 l5 s t u p d w hl hl5 hG hsm
  | true =>
    by_cases h5 : 12 < n5
    · exact pickRight_n1 H A n c g A2 n2 c2 use A3 n3 c3 l A4 n4 c4 A5 n5 c5 l5 s t u p d w hl hl5 hG hsm h5
    cases h6 : shortT l5 with
    | false => exact pickRight_n2 H A n c g A2 n2 c2 use A3 n3 c3 l A4 n4 c4 A5 n5 c5 l5 s t u p d w hl hl5 hG hsm h5 h6
    | true =>
      have h := of_decide_eq_true hsm
      unfold SmallS at h
      exact pickRight_yes H ⟨hr, hnil, hnc, by omega⟩ ⟨hr2, hnil2, hnc2, by omega, hj2⟩ hl (short_fewS h.2.2.2.1) hw hl5 hs ht hv hp hd hsm h5 h6 hG

end Go.Proofs.YtchogijdkagiiaaGreatDoor
