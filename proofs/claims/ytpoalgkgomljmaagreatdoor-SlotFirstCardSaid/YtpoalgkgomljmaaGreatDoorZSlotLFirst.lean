/- SlotFirst of layer 13, as a walk over the contracts. Written by gen/gen_slotfirst.py. -/
import Derived.Deep.RegionHeld3
import Derived.Test.YtpoalgkgomljmaaGreatDoorMg10
import Derived.Test.YtpoalgkgomljmaaGreatDoorMg11
import Derived.Test.YtpoalgkgomljmaaGreatDoorMg15
import Derived.Test.YtpoalgkgomljmaaGreatDoorMg07
namespace Go.Proofs.YtpoalgkgomljmaaGreatDoor
open Go.RowKit

theorem ends_i64 {l : Tb} {t : Int} : ∀ y ∈ endsT l t, I64 y := fun y hy => by
  cases hr : rightT l with
  | true =>
    obtain ⟨_, x, hx, e⟩ := (mem_endsT hr).1 hy
    have h1 := ((rightT_is.1 hr).may x hx).2.2
    unfold I64; omega
  | false =>
    rw [endsT_wrong hr] at hy
    cases hy
set_option maxRecDepth 100000 in
set_option maxHeartbeats 8000000 in
theorem slotFirst_no (H : SlotOk) (A : Option Addr) (n c : Nat) (_g : Gr) (A2 : Option Addr) (n2 c2 : Nat) (_use : List Int) (A3 : Option Addr) (n3 c3 : Nat) (l : Tb) (s : Sp) (t u : Int) (w : World) (hl : TAsk w A3 n3 c3 l) (hs : decide (SmallS n n2 n3 l 0) = false) (hG : Glob w) : Calls Tryz.prog 5 #[.slice A n c, .slice A2 n2 c2, .slice A3 n3 c3, .agg #[.int .i64 s.nodes, .int .i64 s.cores, .int .i64 s.gpus, .string s.tag, .bool s.whole, .int .i64 s.long, .int .i64 s.prio], .int .i64 t, .int .i64 u] w fun e w' => e = .returned (.bool true) ∧ Below w.heap.size w w' := by
  have hba : Below w.heap.size w (w.alloc (.cells #[.int .i64 s.nodes, .int .i64 s.cores, .int .i64 s.gpus, .string s.tag, .bool s.whole, .int .i64 s.long, .int .i64 s.prio] 26)) := (Below.refl _ _).alloc (Nat.le_refl _) _
  have HB := Lib.hid hba
  have HG := Lib.hid (hG.next hba)
  have TA := Lib.hid (hl.next hba)
  have HSM := Lib.hid hs
  clear hba hG hl hs
  go_enter Tryz.func5, Tryz.ntmps5
  go_wp2_with fail
  refine (awake13_any H _ HG.out).mono ?_
  rintro e w1 ⟨rfl, hb⟩
  have HBq := Lib.hid (HB.out.trans (hb.mono HB.out.size))
  clear HB
  have HB := HBq
  clear HBq
  have HGq := Lib.hid (HG.out.next hb)
  clear HG
  have HG := HGq
  clear HGq
  have TAq := Lib.hid (TA.out.next hb)
  clear TA
  have TA := TAq
  clear TAq
  clear hb
  go_wp2_with fail
  refine (smallS_b TA.out HSM.out).mono ?_
  rintro e w2 ⟨rfl, hb⟩
  have HBq := Lib.hid (HB.out.trans (hb.mono HB.out.size))
  clear HB
  have HB := HBq
  clear HBq
  have HGq := Lib.hid (HG.out.next hb)
  clear HG
  have HG := HGq
  clear HGq
  have TAq := Lib.hid (TA.out.next hb)
  clear TA
  have TA := TAq
  clear TAq
  clear hb
  go_wp2
  go_ret
  exact ⟨rfl, HB.out⟩
set_option maxRecDepth 100000 in
set_option maxHeartbeats 8000000 in
theorem slotFirst_none (H : SlotOk) (HD : HeldOk) {A : Option Addr} {n c : Nat} {g : Gr} {A2 : Option Addr} {n2 c2 : Nat} {use : List Int} {A3 : Option Addr} {n3 c3 : Nat} {l : Tb} {s : Sp} {t u : Int} {w : World} (hg : GAsk w A n c g) (hu : LAsk w A2 n2 c2 use) (hl : TAsk w A3 n3 c3 l) (hf : FewT l) (hs : SAsk s) (ht : I64 t) (hv : I64 u) (hsm : decide (SmallS n n2 n3 l 0) = true) (hG : Glob w) (h0 : firstS g use l s t u = none) : Calls Tryz.prog 5 #[.slice A n c, .slice A2 n2 c2, .slice A3 n3 c3, .agg #[.int .i64 s.nodes, .int .i64 s.cores, .int .i64 s.gpus, .string s.tag, .bool s.whole, .int .i64 s.long, .int .i64 s.prio], .int .i64 t, .int .i64 u] w fun e w' => e = .returned (.bool true) ∧ Below w.heap.size w w' := by
  have hba : Below w.heap.size w (w.alloc (.cells #[.int .i64 s.nodes, .int .i64 s.cores, .int .i64 s.gpus, .string s.tag, .bool s.whole, .int .i64 s.long, .int .i64 s.prio] 26)) := (Below.refl _ _).alloc (Nat.le_refl _) _
  have HB := Lib.hid hba
  have HG := Lib.hid (hG.next hba)
  have GA := Lib.hid (hg.next hba)
  have UA := Lib.hid (hu.next hba)
  have TA := Lib.hid (hl.next hba)
  have BS : Hid (BoxS (w.alloc (.cells #[.int .i64 s.nodes, .int .i64 s.cores, .int .i64 s.gpus, .string s.tag, .bool s.whole, .int .i64 s.long, .int .i64 s.prio] 26)) w.heap.size s) := Lib.hid (box_new w s)
  have HF := Lib.hid hf
  have HS := Lib.hid hs
  have HT := Lib.hid ht
  have HV := Lib.hid hv
  have HSM := Lib.hid hsm
  have hsp := of_decide_eq_true hsm
  unfold SmallS at hsp
  have hll : l.length ≤ 12 := by rw [hl.reads.len]; omega
  obtain ⟨es, hes⟩ : ∃ x, endsT l t = x := ⟨_, rfl⟩
  have HEN := Lib.hid hes
  have hel : es.length ≤ 12 := by rw [← hes]; exact Nat.le_trans (ends_len l t) hll
  have HEI : Hid (∀ y ∈ es, I64 y) := Lib.hid (by rw [← hes]; exact fun y hy => ends_i64 y hy)
  have E1 := Lib.hid (first_none h0)
  have HNT : Hid (decide (FitsS g use l s u t) = false) := Lib.hid (decide_eq_false (firstS_none.1 h0 t (mem_timesS.2 (.inl rfl))))
  have HNF : Hid (∀ y ∈ es, ¬ FitsS g use l s u y) := Lib.hid (fun y hy => by
    cases hr : rightT l with
    | true =>
      rw [← hes, mem_endsT hr] at hy
      exact firstS_none.1 h0 y (mem_timesS.2 (.inr hy))
    | false => exact fun h => by have := h.2.1; rw [hr] at this; cases this)
  clear hba hG hg hu hl hf hs ht hv hsm hsp hll hes h0
  go_enter Tryz.func5, Tryz.ntmps5
  go_wp2_with fail
  refine (awake13_any H _ HG.out).mono ?_
  rintro e w1 ⟨rfl, hb⟩
  have HBq := Lib.hid (HB.out.trans (hb.mono HB.out.size))
  clear HB
  have HB := HBq
  clear HBq
  have HGq := Lib.hid (HG.out.next hb)
  clear HG
  have HG := HGq
  clear HGq
  have GAq := Lib.hid (GA.out.next hb)
  clear GA
  have GA := GAq
  clear GAq
  have UAq := Lib.hid (UA.out.next hb)
  clear UA
  have UA := UAq
  clear UAq
  have TAq := Lib.hid (TA.out.next hb)
  clear TA
  have TA := TAq
  clear TAq
  have BSq := Lib.hid (BS.out.next hb)
  clear BS
  have BS := BSq
  clear BSq
  clear hb
  go_wp2_with fail
  refine (smallS_b TA.out HSM.out).mono ?_
  rintro e w2 ⟨rfl, hb⟩
  have HBq := Lib.hid (HB.out.trans (hb.mono HB.out.size))
  clear HB
  have HB := HBq
  clear HBq
  have HGq := Lib.hid (HG.out.next hb)
  clear HG
  have HG := HGq
  clear HGq
  have GAq := Lib.hid (GA.out.next hb)
  clear GA
  have GA := GAq
  clear GAq
  have UAq := Lib.hid (UA.out.next hb)
  clear UA
  have UA := UAq
  clear UAq
  have TAq := Lib.hid (TA.out.next hb)
  clear TA
  have TA := TAq
  clear TAq
  have BSq := Lib.hid (BS.out.next hb)
  clear BS
  have BS := BSq
  clear BSq
  clear hb
  have q0 := BS.out.c0
  have q1 := BS.out.c1
  have q2 := BS.out.c2
  have q3 := BS.out.c3
  have q4 := BS.out.c4
  have q5 := BS.out.c5
  have q6 := BS.out.c6
  go_wp2_with fail
  refine (s13_first H GA.out UA.out TA.out HF.out HS.out HT.out HV.out HG.out E1.out.1 E1.out.2.1 E1.out.2.2).mono ?_
  rintro e w3 ⟨⟨A31, c31, rfl, hr3, hn3, hc3⟩, hb⟩
  have HBq := Lib.hid (HB.out.trans (hb.mono HB.out.size))
  clear HB
  have HB := HBq
  clear HBq
  have HGq := Lib.hid (HG.out.next hb)
  clear HG
  have HG := HGq
  clear HGq
  have GAq := Lib.hid (GA.out.next hb)
  clear GA
  have GA := GAq
  clear GAq
  have UAq := Lib.hid (UA.out.next hb)
  clear UA
  have UA := UAq
  clear UAq
  have TAq := Lib.hid (TA.out.next hb)
  clear TA
  have TA := TAq
  clear TAq
  have BSq := Lib.hid (BS.out.next hb)
  clear BS
  have BS := BSq
  clear BSq
  clear hb
  clear hr3 hn3 hc3
  clear q0 q1 q2 q3 q4 q5 q6
  go_wp2_with fail
  refine (h10_ends HD TA.out HF.out HEN.out).mono ?_
  rintro e w4 ⟨⟨A4, c4, rfl, hr4, hnil4, hc4⟩, hb⟩
  have HBq := Lib.hid (HB.out.trans (hb.mono HB.out.size))
  clear HB
  have HB := HBq
  clear HBq
  have HGq := Lib.hid (HG.out.next hb)
  clear HG
  have HG := HGq
  clear HGq
  have GAq := Lib.hid (GA.out.next hb)
  clear GA
  have GA := GAq
  clear GAq
  have UAq := Lib.hid (UA.out.next hb)
  clear UA
  have UA := UAq
  clear UAq
  have TAq := Lib.hid (TA.out.next hb)
  clear TA
  have TA := TAq
  clear TAq
  have BSq := Lib.hid (BS.out.next hb)
  clear BS
  have BS := BSq
  clear BSq
  clear hb
  have ES := Lib.hid hr4
  clear hr4 hnil4 hc4
  obtain ⟨L, hL⟩ : ∃ L, es.length = L := ⟨_, rfl⟩
  have HLL := Lib.hid hL
  rw [hL] at ES hel ⊢
  clear hL
  go_wp2_with fail
  go_loopw [17] (fun iv wr => ∃ k : Nat, k ≤ L ∧ iv = .int .i64 k ∧ Below w4.heap.size w4 wr) (fun iv _ => L - (intOf iv).toNat)
  case atStart => exact ⟨0, Nat.zero_le _, rfl, Below.refl _ _⟩
  case round =>
    obtain ⟨k, hk, rfl, hbel⟩ := hrel
    have HB4 := Lib.hid (HB.out.trans (hbel.mono HB.out.size))
    have HG4 := Lib.hid (HG.out.next hbel)
    have GA4 := Lib.hid (GA.out.next hbel)
    have UA4 := Lib.hid (UA.out.next hbel)
    have TA4 := Lib.hid (TA.out.next hbel)
    have BS4 := Lib.hid (BS.out.next hbel)
    have ES4 := Lib.hid (ES.out.next hbel)
    have HBL := Lib.hid hbel
    clear hbel
    by_cases hlt : k < L
    · obtain ⟨be, offe, hA4, hbe, ce0⟩ := ES4.out.one hlt
      subst hA4
      have hin : es.getD k 0 ∈ es := by
        have h1 : k < es.length := by rw [HLL.out]; exact hlt
        rw [List.getD, List.getElem?_eq_getElem h1]; exact List.getElem_mem h1
      obtain ⟨y, hy⟩ : ∃ y, es.getD k 0 = y := ⟨_, rfl⟩
      rw [hy] at ce0 hin
      have CE : Hid (CellK wr ⟨be, offe + k, none⟩ (.int .i64 y)) := Lib.hid ⟨hbe, ce0⟩
      have HYI := Lib.hid (HEI.out y hin)
      have HNF2 : Hid (decide (FitsS g use l s u y) = false) := Lib.hid (decide_eq_false (HNF.out y hin))
      clear hin hy ce0 hbe
      go_wp2_with fail
      have HKEEP : Hid (∀ wx, Below wr.drew.heap.size wr.drew wx → wx.cell? ⟨w.heap.size, 0, none⟩ = some (.int .i64 s.nodes) ∧ wx.cell? ⟨w.heap.size, 1, none⟩ = some (.int .i64 s.cores) ∧ wx.cell? ⟨w.heap.size, 2, none⟩ = some (.int .i64 s.gpus) ∧ wx.cell? ⟨w.heap.size, 3, none⟩ = some (.string s.tag) ∧ wx.cell? ⟨w.heap.size, 4, none⟩ = some (.bool s.whole) ∧ wx.cell? ⟨w.heap.size, 5, none⟩ = some (.int .i64 s.long) ∧ wx.cell? ⟨w.heap.size, 6, none⟩ = some (.int .i64 s.prio) ∧ wx.cell? ⟨be, offe + k, none⟩ = some (.int .i64 y)) := Lib.hid (fun wx hz' => by
        have hz := (bel_drew1 wr).trans (hz'.mono (bel_drew1 wr).size)
        exact ⟨keep_cell BS4.out.lt BS4.out.c0 hz, keep_cell BS4.out.lt BS4.out.c1 hz, keep_cell BS4.out.lt BS4.out.c2 hz, keep_cell BS4.out.lt BS4.out.c3 hz, keep_cell BS4.out.lt BS4.out.c4 hz, keep_cell BS4.out.lt BS4.out.c5 hz, keep_cell BS4.out.lt BS4.out.c6 hz, keep_cell CE.out.lt CE.out.at' hz⟩)
      have hd := bel_drew1 wr
      have HBLq := Lib.hid (HBL.out.trans (hd.mono HBL.out.size))
      clear HBL
      have HBL := HBLq
      clear HBLq
      have HG4q := Lib.hid (HG4.out.next hd)
      clear HG4
      have HG4 := HG4q
      clear HG4q
      have GA4q := Lib.hid (GA4.out.next hd)
      clear GA4
      have GA4 := GA4q
      clear GA4q
      have UA4q := Lib.hid (UA4.out.next hd)
      clear UA4
      have UA4 := UA4q
      clear UA4q
      have TA4q := Lib.hid (TA4.out.next hd)
      clear TA4
      have TA4 := TA4q
      clear TA4q
      have BS4q := Lib.hid (BS4.out.next hd)
      clear BS4
      have BS4 := BS4q
      clear BS4q
      have CEq := Lib.hid (CE.out.next hd)
      clear CE
      have CE := CEq
      clear CEq
      clear hd
      have HY := Lib.hid (Below.refl wr.drew.heap.size wr.drew)
      go_region_held3 (fun w' => w'.cell? ⟨w.heap.size, 0, none⟩ = some (.int .i64 s.nodes) ∧ w'.cell? ⟨w.heap.size, 1, none⟩ = some (.int .i64 s.cores) ∧ w'.cell? ⟨w.heap.size, 2, none⟩ = some (.int .i64 s.gpus) ∧ w'.cell? ⟨w.heap.size, 3, none⟩ = some (.string s.tag) ∧ w'.cell? ⟨w.heap.size, 4, none⟩ = some (.bool s.whole) ∧ w'.cell? ⟨w.heap.size, 5, none⟩ = some (.int .i64 s.long) ∧ w'.cell? ⟨w.heap.size, 6, none⟩ = some (.int .i64 s.prio) ∧ w'.cell? ⟨be, offe + k, none⟩ = some (.int .i64 y))
        (first | exact HKEEP.out _ (Below.refl _ _) | exact HKEEP.out _ HY.out | exact HKEEP.out _ (HY.out.alloc HY.out.size _) | go_keep | fail)
        (first | (go_at_call 9; (with_reducible refine (s13_at H GA4.out UA4.out TA4.out HF.out HS.out HYI.out HV.out HG4.out rfl HNF2.out).mono ?_); rintro e w9 ⟨⟨A8, c8, rfl, _, _, _⟩, hb⟩; have HY := Lib.hid (HY.out.trans (hb.mono HY.out.size)); have HBL := Lib.hid (HBL.out.trans (hb.mono HBL.out.size)); have HG4 := Lib.hid (HG4.out.next hb); have GA4 := Lib.hid (GA4.out.next hb); have UA4 := Lib.hid (UA4.out.next hb); have TA4 := Lib.hid (TA4.out.next hb); have BS4 := Lib.hid (BS4.out.next hb); have CE := Lib.hid (CE.out.next hb); clear hb) | fail)
      clear HKEEP HY
      go_wp2_with fail
      go_roundw
      case rel => exact ⟨k + 1, by omega, by go_num, HBL.out⟩
      case measure => simp [intOf] <;> omega
    · clear HB HG GA UA TA BS ES
      have HB := HB4
      clear HB4
      have HG := HG4
      clear HG4
      have GA := GA4
      clear GA4
      have UA := UA4
      clear UA4
      have TA := TA4
      clear TA4
      have BS := BS4
      clear BS4
      have ES := ES4
      clear ES4
      clear HBL
      have q0 := BS.out.c0
      have q1 := BS.out.c1
      have q2 := BS.out.c2
      have q3 := BS.out.c3
      have q4 := BS.out.c4
      have q5 := BS.out.c5
      have q6 := BS.out.c6
      go_wp2_with fail
      refine (s13_at H GA.out UA.out TA.out HF.out HS.out HT.out HV.out HG.out rfl HNT.out).mono ?_
      rintro e w21 ⟨⟨A9, c9, rfl, _, _, _⟩, hb⟩
      have HBq := Lib.hid (HB.out.trans (hb.mono HB.out.size))
      clear HB
      have HB := HBq
      clear HBq
      have HGq := Lib.hid (HG.out.next hb)
      clear HG
      have HG := HGq
      clear HGq
      have GAq := Lib.hid (GA.out.next hb)
      clear GA
      have GA := GAq
      clear GAq
      have UAq := Lib.hid (UA.out.next hb)
      clear UA
      have UA := UAq
      clear UAq
      have TAq := Lib.hid (TA.out.next hb)
      clear TA
      have TA := TAq
      clear TAq
      have BSq := Lib.hid (BS.out.next hb)
      clear BS
      have BS := BSq
      clear BSq
      clear hb
      clear q0 q1 q2 q3 q4 q5 q6
      go_wp2
      go_ret
      exact ⟨rfl, HB.out⟩
set_option maxRecDepth 100000 in
set_option maxHeartbeats 8000000 in
theorem slotFirst_some (H : SlotOk) (HD : HeldOk) (HM : MatchOk) (HSP : SpecOk) {A : Option Addr} {n c : Nat} {g : Gr} {A2 : Option Addr} {n2 c2 : Nat} {use : List Int} {A3 : Option Addr} {n3 c3 : Nat} {l : Tb} {s : Sp} {t u x : Int} {w : World} (hg : GAsk w A n c g) (hu : LAsk w A2 n2 c2 use) (hl : TAsk w A3 n3 c3 l) (hf : FewT l) (hs : SAsk s) (ht : I64 t) (hv : I64 u) (hsm : decide (SmallS n n2 n3 l 0) = true) (hG : Glob w) (h0 : firstS g use l s t u = some x) : Calls Tryz.prog 5 #[.slice A n c, .slice A2 n2 c2, .slice A3 n3 c3, .agg #[.int .i64 s.nodes, .int .i64 s.cores, .int .i64 s.gpus, .string s.tag, .bool s.whole, .int .i64 s.long, .int .i64 s.prio], .int .i64 t, .int .i64 u] w fun e w' => e = .returned (.bool true) ∧ Below w.heap.size w w' := by
  have hba : Below w.heap.size w (w.alloc (.cells #[.int .i64 s.nodes, .int .i64 s.cores, .int .i64 s.gpus, .string s.tag, .bool s.whole, .int .i64 s.long, .int .i64 s.prio] 26)) := (Below.refl _ _).alloc (Nat.le_refl _) _
  have HB := Lib.hid hba
  have HG := Lib.hid (hG.next hba)
  have GA := Lib.hid (hg.next hba)
  have UA := Lib.hid (hu.next hba)
  have TA := Lib.hid (hl.next hba)
  have BS : Hid (BoxS (w.alloc (.cells #[.int .i64 s.nodes, .int .i64 s.cores, .int .i64 s.gpus, .string s.tag, .bool s.whole, .int .i64 s.long, .int .i64 s.prio] 26)) w.heap.size s) := Lib.hid (box_new w s)
  have HF := Lib.hid hf
  have HS := Lib.hid hs
  have HT := Lib.hid ht
  have HV := Lib.hid hv
  have HSM := Lib.hid hsm
  have hsp := of_decide_eq_true hsm
  unfold SmallS at hsp
  have hll : l.length ≤ 12 := by rw [hl.reads.len]; omega
  obtain ⟨es, hes⟩ : ∃ x, endsT l t = x := ⟨_, rfl⟩
  have HEN := Lib.hid hes
  have hel : es.length ≤ 12 := by rw [← hes]; exact Nat.le_trans (ends_len l t) hll
  have HEI : Hid (∀ y ∈ es, I64 y) := Lib.hid (by rw [← hes]; exact fun y hy => ends_i64 y hy)
  have h1 := firstS_some.1 h0
  have hfx := h1.1.2
  have hfr := firstS_from h0
  obtain ⟨r1, hr1⟩ : ∃ r, gotS g use l s u x = r := ⟨_, rfl⟩
  obtain ⟨ee, hee⟩ : ∃ r, endsS s x = r := ⟨_, rfl⟩
  obtain ⟨bl, hbl⟩ : ∃ r, busyT l x ee = r := ⟨_, rfl⟩
  obtain ⟨er, her⟩ : ∃ r, addE l ⟨-1, r1, x, ee⟩ = r := ⟨_, rfl⟩
  have E1 : Hid (firstAtS g use l s t u = x ∧ firstLS g use l s t u = r1 ∧ firstBS g use l s t u = true) := Lib.hid (by rw [← hr1]; exact first_some h0)
  have HEE := Lib.hid hee
  have HBU := Lib.hid hbl
  have HER := Lib.hid her
  have HLX : Hid (∀ y ∈ es, FitsS g use l s u y → x ≤ y) := Lib.hid (fun y hy hfy => by
    rw [← hes, mem_endsT hfy.2.1] at hy
    exact h1.2 y (mem_timesS.2 (.inr hy)) hfy)
  have HXB : Hid (∀ b, decide (FitsS g use l s u t) = b → (x == t) = b) := Lib.hid (fun b hb => by
    rw [← hb]
    by_cases hft : FitsS g use l s u t
    · have h2 := h1.2 t (mem_timesS.2 (.inl rfl)) hft
      rw [decide_eq_true hft]
      exact beq_iff_eq.2 (by omega)
    · rw [decide_eq_false hft]
      exact beq_eq_false_iff_ne.2 fun e => hft (e ▸ hfx))
  have HXI : Hid (I64 x) := Lib.hid (by have := hfx.1; unfold I64; omega)
  have hei : I64 ee := by rw [← hee]; unfold endsS plusZ nearZ I64; repeat' split
                          all_goals omega
  have d2 : decide (x < t) = false := decide_eq_false (by omega)
  have d3 : decide (u < ee) = false := decide_eq_false (by have := hfx.2.2.2.1; omega)
  have hrl : r1.length ≤ 40 := by
    rw [← hr1, gotS_is hfx]
    refine Nat.le_trans findL_short ?_
    rw [hg.reads.1]; exact hsp.1
  have HRF : Hid (r1.length ≤ maxLen) := Lib.hid (Nat.le_trans hrl (by decide))
  have HR100 : Hid (r1.length ≤ 100) := Lib.hid (Nat.le_trans hrl (by decide))
  have HUF : Hid (n2 ≤ maxLen) := Lib.hid (Nat.le_trans hu.few (by decide))
  have HBF : Hid (bl.length ≤ maxLen) := Lib.hid (by rw [← hbl]; exact Nat.le_trans (busy_len _ _ _) (by decide))
  have HPT : Hid (partB r1 use = true) := Lib.hid (by rw [← hr1]; exact gotS_part hfx)
  have HAP : Hid (apartB r1 bl = true) := Lib.hid (by rw [← hr1, ← hbl, ← hee]; exact gotS_apart hfx)
  have HCO : Hid (couldL g s = true) := Lib.hid (had_could hfx.2.2.2.2)
  have HHI : Hid (I64 (-1) ∧ I64 x ∧ I64 ee ∧ ∀ q ∈ r1, I64 q) := Lib.hid ⟨by unfold I64; omega, HXI.out, hei, fun q hq => by
    have := right_mem (gotS_right hfx) q (by rw [hr1]; exact hq)
    unfold I64; omega⟩
  have HE7 : Hid (er = 0 ∨ er = 7) := Lib.hid (by
    have h2 := got_add hfx (by omega) (-1)
    rw [hr1, hee, her] at h2
    exact h2)
  clear hba hG hg hu hl hf hs ht hv hsm hsp hll hes h0 h1 hfx hfr hr1 hee hbl her hei hrl
  go_enter Tryz.func5, Tryz.ntmps5
  go_wp2_with fail
  refine (awake13_any H _ HG.out).mono ?_
  rintro e w1 ⟨rfl, hb⟩
  have HBq := Lib.hid (HB.out.trans (hb.mono HB.out.size))
  clear HB
  have HB := HBq
  clear HBq
  have HGq := Lib.hid (HG.out.next hb)
  clear HG
  have HG := HGq
  clear HGq
  have GAq := Lib.hid (GA.out.next hb)
  clear GA
  have GA := GAq
  clear GAq
  have UAq := Lib.hid (UA.out.next hb)
  clear UA
  have UA := UAq
  clear UAq
  have TAq := Lib.hid (TA.out.next hb)
  clear TA
  have TA := TAq
  clear TAq
  have BSq := Lib.hid (BS.out.next hb)
  clear BS
  have BS := BSq
  clear BSq
  clear hb
  go_wp2_with fail
  refine (smallS_b TA.out HSM.out).mono ?_
  rintro e w2 ⟨rfl, hb⟩
  have HBq := Lib.hid (HB.out.trans (hb.mono HB.out.size))
  clear HB
  have HB := HBq
  clear HBq
  have HGq := Lib.hid (HG.out.next hb)
  clear HG
  have HG := HGq
  clear HGq
  have GAq := Lib.hid (GA.out.next hb)
  clear GA
  have GA := GAq
  clear GAq
  have UAq := Lib.hid (UA.out.next hb)
  clear UA
  have UA := UAq
  clear UAq
  have TAq := Lib.hid (TA.out.next hb)
  clear TA
  have TA := TAq
  clear TAq
  have BSq := Lib.hid (BS.out.next hb)
  clear BS
  have BS := BSq
  clear BSq
  clear hb
  have q0 := BS.out.c0
  have q1 := BS.out.c1
  have q2 := BS.out.c2
  have q3 := BS.out.c3
  have q4 := BS.out.c4
  have q5 := BS.out.c5
  have q6 := BS.out.c6
  go_wp2_with fail
  refine (s13_first H GA.out UA.out TA.out HF.out HS.out HT.out HV.out HG.out E1.out.1 E1.out.2.1 E1.out.2.2).mono ?_
  rintro e w3 ⟨⟨A31, c31, rfl, hr3, hn3, hc3⟩, hb⟩
  have HBq := Lib.hid (HB.out.trans (hb.mono HB.out.size))
  clear HB
  have HB := HBq
  clear HBq
  have HGq := Lib.hid (HG.out.next hb)
  clear HG
  have HG := HGq
  clear HGq
  have GAq := Lib.hid (GA.out.next hb)
  clear GA
  have GA := GAq
  clear GAq
  have UAq := Lib.hid (UA.out.next hb)
  clear UA
  have UA := UAq
  clear UAq
  have TAq := Lib.hid (TA.out.next hb)
  clear TA
  have TA := TAq
  clear TAq
  have BSq := Lib.hid (BS.out.next hb)
  clear BS
  have BS := BSq
  clear BSq
  clear hb
  have R3 := Lib.hid hr3
  have N3 := Lib.hid hn3
  have C3 := Lib.hid hc3
  clear hr3 hn3 hc3
  clear q0 q1 q2 q3 q4 q5 q6
  go_wp2_with fail
  refine (h10_ends HD TA.out HF.out HEN.out).mono ?_
  rintro e w4 ⟨⟨A4, c4, rfl, hr4, hnil4, hc4⟩, hb⟩
  have HBq := Lib.hid (HB.out.trans (hb.mono HB.out.size))
  clear HB
  have HB := HBq
  clear HBq
  have HGq := Lib.hid (HG.out.next hb)
  clear HG
  have HG := HGq
  clear HGq
  have GAq := Lib.hid (GA.out.next hb)
  clear GA
  have GA := GAq
  clear GAq
  have UAq := Lib.hid (UA.out.next hb)
  clear UA
  have UA := UAq
  clear UAq
  have TAq := Lib.hid (TA.out.next hb)
  clear TA
  have TA := TAq
  clear TAq
  have BSq := Lib.hid (BS.out.next hb)
  clear BS
  have BS := BSq
  clear BSq
  have R3q := Lib.hid (R3.out.next hb)
  clear R3
  have R3 := R3q
  clear R3q
  clear hb
  have ES := Lib.hid hr4
  clear hr4 hnil4 hc4
  obtain ⟨L, hL⟩ : ∃ L, es.length = L := ⟨_, rfl⟩
  have HLL := Lib.hid hL
  rw [hL] at ES hel ⊢
  clear hL
  go_wp2_with fail
  go_loopw [17] (fun iv wr => ∃ k : Nat, k ≤ L ∧ iv = .int .i64 k ∧ Below w4.heap.size w4 wr) (fun iv _ => L - (intOf iv).toNat)
  case atStart => exact ⟨0, Nat.zero_le _, rfl, Below.refl _ _⟩
  case round =>
    obtain ⟨k, hk, rfl, hbel⟩ := hrel
    have HB4 := Lib.hid (HB.out.trans (hbel.mono HB.out.size))
    have HG4 := Lib.hid (HG.out.next hbel)
    have GA4 := Lib.hid (GA.out.next hbel)
    have UA4 := Lib.hid (UA.out.next hbel)
    have TA4 := Lib.hid (TA.out.next hbel)
    have BS4 := Lib.hid (BS.out.next hbel)
    have ES4 := Lib.hid (ES.out.next hbel)
    have R34 := Lib.hid (R3.out.next hbel)
    have HBL := Lib.hid hbel
    clear hbel
    by_cases hlt : k < L
    · obtain ⟨be, offe, hA4, hbe, ce0⟩ := ES4.out.one hlt
      subst hA4
      have hin : es.getD k 0 ∈ es := by
        have h1 : k < es.length := by rw [HLL.out]; exact hlt
        rw [List.getD, List.getElem?_eq_getElem h1]; exact List.getElem_mem h1
      obtain ⟨y, hy⟩ : ∃ y, es.getD k 0 = y := ⟨_, rfl⟩
      rw [hy] at ce0 hin
      have CE : Hid (CellK wr ⟨be, offe + k, none⟩ (.int .i64 y)) := Lib.hid ⟨hbe, ce0⟩
      have HYI := Lib.hid (HEI.out y hin)
      have HLE : Hid (decide (FitsS g use l s u y) = true → decide (y < x) = false) := Lib.hid (fun h => decide_eq_false (by have := HLX.out y hin (of_decide_eq_true h); omega))
      obtain ⟨fb, hfb⟩ : ∃ b, decide (FitsS g use l s u y) = b := ⟨_, rfl⟩
      rw [hfb] at HLE
      have HFB := Lib.hid hfb
      clear hin hy ce0 hbe hfb
      go_wp2_with fail
      have HKEEP : Hid (∀ wx, Below wr.drew.heap.size wr.drew wx → wx.cell? ⟨w.heap.size, 0, none⟩ = some (.int .i64 s.nodes) ∧ wx.cell? ⟨w.heap.size, 1, none⟩ = some (.int .i64 s.cores) ∧ wx.cell? ⟨w.heap.size, 2, none⟩ = some (.int .i64 s.gpus) ∧ wx.cell? ⟨w.heap.size, 3, none⟩ = some (.string s.tag) ∧ wx.cell? ⟨w.heap.size, 4, none⟩ = some (.bool s.whole) ∧ wx.cell? ⟨w.heap.size, 5, none⟩ = some (.int .i64 s.long) ∧ wx.cell? ⟨w.heap.size, 6, none⟩ = some (.int .i64 s.prio) ∧ wx.cell? ⟨be, offe + k, none⟩ = some (.int .i64 y)) := Lib.hid (fun wx hz' => by
        have hz := (bel_drew1 wr).trans (hz'.mono (bel_drew1 wr).size)
        exact ⟨keep_cell BS4.out.lt BS4.out.c0 hz, keep_cell BS4.out.lt BS4.out.c1 hz, keep_cell BS4.out.lt BS4.out.c2 hz, keep_cell BS4.out.lt BS4.out.c3 hz, keep_cell BS4.out.lt BS4.out.c4 hz, keep_cell BS4.out.lt BS4.out.c5 hz, keep_cell BS4.out.lt BS4.out.c6 hz, keep_cell CE.out.lt CE.out.at' hz⟩)
      have hd := bel_drew1 wr
      have HBLq := Lib.hid (HBL.out.trans (hd.mono HBL.out.size))
      clear HBL
      have HBL := HBLq
      clear HBLq
      have HG4q := Lib.hid (HG4.out.next hd)
      clear HG4
      have HG4 := HG4q
      clear HG4q
      have GA4q := Lib.hid (GA4.out.next hd)
      clear GA4
      have GA4 := GA4q
      clear GA4q
      have UA4q := Lib.hid (UA4.out.next hd)
      clear UA4
      have UA4 := UA4q
      clear UA4q
      have TA4q := Lib.hid (TA4.out.next hd)
      clear TA4
      have TA4 := TA4q
      clear TA4q
      have BS4q := Lib.hid (BS4.out.next hd)
      clear BS4
      have BS4 := BS4q
      clear BS4q
      have CEq := Lib.hid (CE.out.next hd)
      clear CE
      have CE := CEq
      clear CEq
      clear hd
      have HY := Lib.hid (Below.refl wr.drew.heap.size wr.drew)
      go_region_held3 (fun w' => w'.cell? ⟨w.heap.size, 0, none⟩ = some (.int .i64 s.nodes) ∧ w'.cell? ⟨w.heap.size, 1, none⟩ = some (.int .i64 s.cores) ∧ w'.cell? ⟨w.heap.size, 2, none⟩ = some (.int .i64 s.gpus) ∧ w'.cell? ⟨w.heap.size, 3, none⟩ = some (.string s.tag) ∧ w'.cell? ⟨w.heap.size, 4, none⟩ = some (.bool s.whole) ∧ w'.cell? ⟨w.heap.size, 5, none⟩ = some (.int .i64 s.long) ∧ w'.cell? ⟨w.heap.size, 6, none⟩ = some (.int .i64 s.prio) ∧ w'.cell? ⟨be, offe + k, none⟩ = some (.int .i64 y))
        (first | exact HKEEP.out _ (Below.refl _ _) | exact HKEEP.out _ HY.out | exact HKEEP.out _ (HY.out.alloc HY.out.size _) | go_keep | fail)
        (first | (go_at_call 9; (with_reducible refine (s13_at H GA4.out UA4.out TA4.out HF.out HS.out HYI.out HV.out HG4.out rfl HFB.out).mono ?_); rintro e w9 ⟨⟨A8, c8, rfl, _, _, _⟩, hb⟩; have HY := Lib.hid (HY.out.trans (hb.mono HY.out.size)); have HBL := Lib.hid (HBL.out.trans (hb.mono HBL.out.size)); have HG4 := Lib.hid (HG4.out.next hb); have GA4 := Lib.hid (GA4.out.next hb); have UA4 := Lib.hid (UA4.out.next hb); have TA4 := Lib.hid (TA4.out.next hb); have BS4 := Lib.hid (BS4.out.next hb); have CE := Lib.hid (CE.out.next hb); clear hb) | fail)
      clear HKEEP HY
      cases fb with
      | true =>
        have d1 := HLE.out rfl
        have ce1 := CE.out.at'
        go_wp2_with fail
        go_roundw
        case rel => exact ⟨k + 1, by omega, by go_num, HBL.out⟩
        case measure => simp [intOf] <;> omega
      | false =>
        go_wp2_with fail
        go_roundw
        case rel => exact ⟨k + 1, by omega, by go_num, HBL.out⟩
        case measure => simp [intOf] <;> omega
    · have _u := hk
      clear _u
      clear R3
      have R3 := R34
      clear R34
      clear HB HG GA UA TA BS ES
      have HB := HB4
      clear HB4
      have HG := HG4
      clear HG4
      have GA := GA4
      clear GA4
      have UA := UA4
      clear UA4
      have TA := TA4
      clear TA4
      have BS := BS4
      clear BS4
      have ES := ES4
      clear ES4
      clear HBL
      obtain ⟨bt, hbt⟩ : ∃ b, decide (FitsS g use l s u t) = b := ⟨_, rfl⟩
      have HBT := Lib.hid hbt
      have HXT := Lib.hid (HXB.out bt hbt)
      clear hbt
      cases bt with
      | true =>
        have d5 : (x == t) = true := HXT.out
        have q0 := BS.out.c0
        have q1 := BS.out.c1
        have q2 := BS.out.c2
        have q3 := BS.out.c3
        have q4 := BS.out.c4
        have q5 := BS.out.c5
        have q6 := BS.out.c6
        go_wp2_with fail
        refine (s13_at H GA.out UA.out TA.out HF.out HS.out HT.out HV.out HG.out rfl HBT.out).mono ?_
        rintro e w21 ⟨⟨A9, c9, rfl, _, _, _⟩, hb⟩
        have HBq := Lib.hid (HB.out.trans (hb.mono HB.out.size))
        clear HB
        have HB := HBq
        clear HBq
        have HGq := Lib.hid (HG.out.next hb)
        clear HG
        have HG := HGq
        clear HGq
        have GAq := Lib.hid (GA.out.next hb)
        clear GA
        have GA := GAq
        clear GAq
        have UAq := Lib.hid (UA.out.next hb)
        clear UA
        have UA := UAq
        clear UAq
        have TAq := Lib.hid (TA.out.next hb)
        clear TA
        have TA := TAq
        clear TAq
        have BSq := Lib.hid (BS.out.next hb)
        clear BS
        have BS := BSq
        clear BSq
        have R3q := Lib.hid (R3.out.next hb)
        clear R3
        have R3 := R3q
        clear R3q
        clear hb
        clear q0 q1 q2 q3 q4 q5 q6
        have q0 := BS.out.c0
        have q1 := BS.out.c1
        have q2 := BS.out.c2
        have q3 := BS.out.c3
        have q4 := BS.out.c4
        have q5 := BS.out.c5
        have q6 := BS.out.c6
        go_wp2_with fail
        refine (s7_ends HSP HS.out HG.out HXI.out HEE.out).mono ?_
        rintro e w22 ⟨rfl, hb⟩
        have HBq := Lib.hid (HB.out.trans (hb.mono HB.out.size))
        clear HB
        have HB := HBq
        clear HBq
        have HGq := Lib.hid (HG.out.next hb)
        clear HG
        have HG := HGq
        clear HGq
        have GAq := Lib.hid (GA.out.next hb)
        clear GA
        have GA := GAq
        clear GAq
        have UAq := Lib.hid (UA.out.next hb)
        clear UA
        have UA := UAq
        clear UAq
        have TAq := Lib.hid (TA.out.next hb)
        clear TA
        have TA := TAq
        clear TAq
        have BSq := Lib.hid (BS.out.next hb)
        clear BS
        have BS := BSq
        clear BSq
        have R3q := Lib.hid (R3.out.next hb)
        clear R3
        have R3 := R3q
        clear R3q
        clear hb
        clear q0 q1 q2 q3 q4 q5 q6
        go_wp2_with fail
        refine (s_part R3.out UA.out.reads HRF.out HUF.out HPT.out).mono ?_
        rintro e w23 ⟨rfl, hb⟩
        have HBq := Lib.hid (HB.out.trans (hb.mono HB.out.size))
        clear HB
        have HB := HBq
        clear HBq
        have HGq := Lib.hid (HG.out.next hb)
        clear HG
        have HG := HGq
        clear HGq
        have GAq := Lib.hid (GA.out.next hb)
        clear GA
        have GA := GAq
        clear GAq
        have UAq := Lib.hid (UA.out.next hb)
        clear UA
        have UA := UAq
        clear UAq
        have TAq := Lib.hid (TA.out.next hb)
        clear TA
        have TA := TAq
        clear TAq
        have BSq := Lib.hid (BS.out.next hb)
        clear BS
        have BS := BSq
        clear BSq
        have R3q := Lib.hid (R3.out.next hb)
        clear R3
        have R3 := R3q
        clear R3q
        clear hb
        go_wp2_with fail
        refine (h10_busy HD TA.out HF.out HBU.out).mono ?_
        rintro e w24 ⟨⟨A10, c10, rfl, hr10, _, _⟩, hb⟩
        have HBq := Lib.hid (HB.out.trans (hb.mono HB.out.size))
        clear HB
        have HB := HBq
        clear HBq
        have HGq := Lib.hid (HG.out.next hb)
        clear HG
        have HG := HGq
        clear HGq
        have GAq := Lib.hid (GA.out.next hb)
        clear GA
        have GA := GAq
        clear GAq
        have UAq := Lib.hid (UA.out.next hb)
        clear UA
        have UA := UAq
        clear UAq
        have TAq := Lib.hid (TA.out.next hb)
        clear TA
        have TA := TAq
        clear TAq
        have BSq := Lib.hid (BS.out.next hb)
        clear BS
        have BS := BSq
        clear BSq
        have R3q := Lib.hid (R3.out.next hb)
        clear R3
        have R3 := R3q
        clear R3q
        clear hb
        have B10 := Lib.hid hr10
        clear hr10
        go_wp2_with fail
        refine (s_apart R3.out B10.out HRF.out HBF.out HAP.out).mono ?_
        rintro e w25 ⟨rfl, hb⟩
        have HBq := Lib.hid (HB.out.trans (hb.mono HB.out.size))
        clear HB
        have HB := HBq
        clear HBq
        have HGq := Lib.hid (HG.out.next hb)
        clear HG
        have HG := HGq
        clear HGq
        have GAq := Lib.hid (GA.out.next hb)
        clear GA
        have GA := GAq
        clear GAq
        have UAq := Lib.hid (UA.out.next hb)
        clear UA
        have UA := UAq
        clear UAq
        have TAq := Lib.hid (TA.out.next hb)
        clear TA
        have TA := TAq
        clear TAq
        have BSq := Lib.hid (BS.out.next hb)
        clear BS
        have BS := BSq
        clear BSq
        have R3q := Lib.hid (R3.out.next hb)
        clear R3
        have R3 := R3q
        clear R3q
        have B10q := Lib.hid (B10.out.next hb)
        clear B10
        have B10 := B10q
        clear B10q
        clear hb
        have q0 := BS.out.c0
        have q1 := BS.out.c1
        have q2 := BS.out.c2
        have q3 := BS.out.c3
        have q4 := BS.out.c4
        have q5 := BS.out.c5
        have q6 := BS.out.c6
        go_wp2_with fail
        refine (m9_could HM GA.out HS.out HG.out HCO.out).mono ?_
        rintro e w26 ⟨rfl, hb⟩
        have HBq := Lib.hid (HB.out.trans (hb.mono HB.out.size))
        clear HB
        have HB := HBq
        clear HBq
        have HGq := Lib.hid (HG.out.next hb)
        clear HG
        have HG := HGq
        clear HGq
        have GAq := Lib.hid (GA.out.next hb)
        clear GA
        have GA := GAq
        clear GAq
        have UAq := Lib.hid (UA.out.next hb)
        clear UA
        have UA := UAq
        clear UAq
        have TAq := Lib.hid (TA.out.next hb)
        clear TA
        have TA := TAq
        clear TAq
        have BSq := Lib.hid (BS.out.next hb)
        clear BS
        have BS := BSq
        clear BSq
        have R3q := Lib.hid (R3.out.next hb)
        clear R3
        have R3 := R3q
        clear R3q
        have B10q := Lib.hid (B10.out.next hb)
        clear B10
        have B10 := B10q
        clear B10q
        clear hb
        clear q0 q1 q2 q3 q4 q5 q6
        go_wp2_with fail
        refine (h10_add HD (h := ⟨-1, r1, x, ee⟩) TA.out HF.out ⟨R3.out, N3.out, C3.out, HRF.out, HHI.out⟩ HR100.out rfl HER.out).mono ?_
        rintro e w27 ⟨⟨A11, c11, rfl, _, _, _⟩, hb⟩
        have HBq := Lib.hid (HB.out.trans (hb.mono HB.out.size))
        clear HB
        have HB := HBq
        clear HBq
        have HGq := Lib.hid (HG.out.next hb)
        clear HG
        have HG := HGq
        clear HGq
        have GAq := Lib.hid (GA.out.next hb)
        clear GA
        have GA := GAq
        clear GAq
        have UAq := Lib.hid (UA.out.next hb)
        clear UA
        have UA := UAq
        clear UAq
        have TAq := Lib.hid (TA.out.next hb)
        clear TA
        have TA := TAq
        clear TAq
        have BSq := Lib.hid (BS.out.next hb)
        clear BS
        have BS := BSq
        clear BSq
        have R3q := Lib.hid (R3.out.next hb)
        clear R3
        have R3 := R3q
        clear R3q
        have B10q := Lib.hid (B10.out.next hb)
        clear B10
        have B10 := B10q
        clear B10q
        clear hb
        rcases HE7.out with h0 | h0
        · have d8 : (er == 0) = true := beq_iff_eq.2 h0
          clear h0
          go_wp2
          go_ret
          exact ⟨rfl, HB.out⟩
        · have d8 : (er == 0) = false := by rw [h0]; rfl
          have d9 : (er == 7) = true := beq_iff_eq.2 h0
          clear h0
          go_wp2
          go_ret
          exact ⟨rfl, HB.out⟩
      | false =>
        have d5 : (x == t) = false := HXT.out
        have q0 := BS.out.c0
        have q1 := BS.out.c1
        have q2 := BS.out.c2
        have q3 := BS.out.c3
        have q4 := BS.out.c4
        have q5 := BS.out.c5
        have q6 := BS.out.c6
        go_wp2_with fail
        refine (s13_at H GA.out UA.out TA.out HF.out HS.out HT.out HV.out HG.out rfl HBT.out).mono ?_
        rintro e w21 ⟨⟨A9, c9, rfl, _, _, _⟩, hb⟩
        have HBq := Lib.hid (HB.out.trans (hb.mono HB.out.size))
        clear HB
        have HB := HBq
        clear HBq
        have HGq := Lib.hid (HG.out.next hb)
        clear HG
        have HG := HGq
        clear HGq
        have GAq := Lib.hid (GA.out.next hb)
        clear GA
        have GA := GAq
        clear GAq
        have UAq := Lib.hid (UA.out.next hb)
        clear UA
        have UA := UAq
        clear UAq
        have TAq := Lib.hid (TA.out.next hb)
        clear TA
        have TA := TAq
        clear TAq
        have BSq := Lib.hid (BS.out.next hb)
        clear BS
        have BS := BSq
        clear BSq
        have R3q := Lib.hid (R3.out.next hb)
        clear R3
        have R3 := R3q
        clear R3q
        clear hb
        clear q0 q1 q2 q3 q4 q5 q6
        have q0 := BS.out.c0
        have q1 := BS.out.c1
        have q2 := BS.out.c2
        have q3 := BS.out.c3
        have q4 := BS.out.c4
        have q5 := BS.out.c5
        have q6 := BS.out.c6
        go_wp2_with fail
        refine (s7_ends HSP HS.out HG.out HXI.out HEE.out).mono ?_
        rintro e w22 ⟨rfl, hb⟩
        have HBq := Lib.hid (HB.out.trans (hb.mono HB.out.size))
        clear HB
        have HB := HBq
        clear HBq
        have HGq := Lib.hid (HG.out.next hb)
        clear HG
        have HG := HGq
        clear HGq
        have GAq := Lib.hid (GA.out.next hb)
        clear GA
        have GA := GAq
        clear GAq
        have UAq := Lib.hid (UA.out.next hb)
        clear UA
        have UA := UAq
        clear UAq
        have TAq := Lib.hid (TA.out.next hb)
        clear TA
        have TA := TAq
        clear TAq
        have BSq := Lib.hid (BS.out.next hb)
        clear BS
        have BS := BSq
        clear BSq
        have R3q := Lib.hid (R3.out.next hb)
        clear R3
        have R3 := R3q
        clear R3q
        clear hb
        clear q0 q1 q2 q3 q4 q5 q6
        go_wp2_with fail
        refine (s_part R3.out UA.out.reads HRF.out HUF.out HPT.out).mono ?_
        rintro e w23 ⟨rfl, hb⟩
        have HBq := Lib.hid (HB.out.trans (hb.mono HB.out.size))
        clear HB
        have HB := HBq
        clear HBq
        have HGq := Lib.hid (HG.out.next hb)
        clear HG
        have HG := HGq
        clear HGq
        have GAq := Lib.hid (GA.out.next hb)
        clear GA
        have GA := GAq
        clear GAq
        have UAq := Lib.hid (UA.out.next hb)
        clear UA
        have UA := UAq
        clear UAq
        have TAq := Lib.hid (TA.out.next hb)
        clear TA
        have TA := TAq
        clear TAq
        have BSq := Lib.hid (BS.out.next hb)
        clear BS
        have BS := BSq
        clear BSq
        have R3q := Lib.hid (R3.out.next hb)
        clear R3
        have R3 := R3q
        clear R3q
        clear hb
        go_wp2_with fail
        refine (h10_busy HD TA.out HF.out HBU.out).mono ?_
        rintro e w24 ⟨⟨A10, c10, rfl, hr10, _, _⟩, hb⟩
        have HBq := Lib.hid (HB.out.trans (hb.mono HB.out.size))
        clear HB
        have HB := HBq
        clear HBq
        have HGq := Lib.hid (HG.out.next hb)
        clear HG
        have HG := HGq
        clear HGq
        have GAq := Lib.hid (GA.out.next hb)
        clear GA
        have GA := GAq
        clear GAq
        have UAq := Lib.hid (UA.out.next hb)
        clear UA
        have UA := UAq
        clear UAq
        have TAq := Lib.hid (TA.out.next hb)
        clear TA
        have TA := TAq
        clear TAq
        have BSq := Lib.hid (BS.out.next hb)
        clear BS
        have BS := BSq
        clear BSq
        have R3q := Lib.hid (R3.out.next hb)
        clear R3
        have R3 := R3q
        clear R3q
        clear hb
        have B10 := Lib.hid hr10
        clear hr10
        go_wp2_with fail
        refine (s_apart R3.out B10.out HRF.out HBF.out HAP.out).mono ?_
        rintro e w25 ⟨rfl, hb⟩
        have HBq := Lib.hid (HB.out.trans (hb.mono HB.out.size))
        clear HB
        have HB := HBq
        clear HBq
        have HGq := Lib.hid (HG.out.next hb)
        clear HG
        have HG := HGq
        clear HGq
        have GAq := Lib.hid (GA.out.next hb)
        clear GA
        have GA := GAq
        clear GAq
        have UAq := Lib.hid (UA.out.next hb)
        clear UA
        have UA := UAq
        clear UAq
        have TAq := Lib.hid (TA.out.next hb)
        clear TA
        have TA := TAq
        clear TAq
        have BSq := Lib.hid (BS.out.next hb)
        clear BS
        have BS := BSq
        clear BSq
        have R3q := Lib.hid (R3.out.next hb)
        clear R3
        have R3 := R3q
        clear R3q
        have B10q := Lib.hid (B10.out.next hb)
        clear B10
        have B10 := B10q
        clear B10q
        clear hb
        have q0 := BS.out.c0
        have q1 := BS.out.c1
        have q2 := BS.out.c2
        have q3 := BS.out.c3
        have q4 := BS.out.c4
        have q5 := BS.out.c5
        have q6 := BS.out.c6
        go_wp2_with fail
        refine (m9_could HM GA.out HS.out HG.out HCO.out).mono ?_
        rintro e w26 ⟨rfl, hb⟩
        have HBq := Lib.hid (HB.out.trans (hb.mono HB.out.size))
        clear HB
        have HB := HBq
        clear HBq
        have HGq := Lib.hid (HG.out.next hb)
        clear HG
        have HG := HGq
        clear HGq
        have GAq := Lib.hid (GA.out.next hb)
        clear GA
        have GA := GAq
        clear GAq
        have UAq := Lib.hid (UA.out.next hb)
        clear UA
        have UA := UAq
        clear UAq
        have TAq := Lib.hid (TA.out.next hb)
        clear TA
        have TA := TAq
        clear TAq
        have BSq := Lib.hid (BS.out.next hb)
        clear BS
        have BS := BSq
        clear BSq
        have R3q := Lib.hid (R3.out.next hb)
        clear R3
        have R3 := R3q
        clear R3q
        have B10q := Lib.hid (B10.out.next hb)
        clear B10
        have B10 := B10q
        clear B10q
        clear hb
        clear q0 q1 q2 q3 q4 q5 q6
        go_wp2_with fail
        refine (h10_add HD (h := ⟨-1, r1, x, ee⟩) TA.out HF.out ⟨R3.out, N3.out, C3.out, HRF.out, HHI.out⟩ HR100.out rfl HER.out).mono ?_
        rintro e w27 ⟨⟨A11, c11, rfl, _, _, _⟩, hb⟩
        have HBq := Lib.hid (HB.out.trans (hb.mono HB.out.size))
        clear HB
        have HB := HBq
        clear HBq
        have HGq := Lib.hid (HG.out.next hb)
        clear HG
        have HG := HGq
        clear HGq
        have GAq := Lib.hid (GA.out.next hb)
        clear GA
        have GA := GAq
        clear GAq
        have UAq := Lib.hid (UA.out.next hb)
        clear UA
        have UA := UAq
        clear UAq
        have TAq := Lib.hid (TA.out.next hb)
        clear TA
        have TA := TAq
        clear TAq
        have BSq := Lib.hid (BS.out.next hb)
        clear BS
        have BS := BSq
        clear BSq
        have R3q := Lib.hid (R3.out.next hb)
        clear R3
        have R3 := R3q
        clear R3q
        have B10q := Lib.hid (B10.out.next hb)
        clear B10
        have B10 := B10q
        clear B10q
        clear hb
        rcases HE7.out with h0 | h0
        · have d8 : (er == 0) = true := beq_iff_eq.2 h0
          clear h0
          go_wp2
          go_ret
          exact ⟨rfl, HB.out⟩
        · have d8 : (er == 0) = false := by rw [h0]; rfl
          have d9 : (er == 7) = true := beq_iff_eq.2 h0
          clear h0
          go_wp2
          go_ret
          exact ⟨rfl, HB.out⟩
theorem slotFirst_walk (H : SlotOk) (HD : HeldOk) (HM : MatchOk) (HSP : SpecOk) (A : Option Addr) (n c : Nat) (g : Gr) (A2 : Option Addr) (n2 c2 : Nat) (use : List Int) (A3 : Option Addr) (n3 c3 : Nat) (l : Tb) (s : Sp) (t u : Int) (w : World) (hr : RG w w.heap.size A n g) (hnil : A = none → c = 0) (hnc : n ≤ c) (_hn : n ≤ maxLen) (hr2 : RI w w.heap.size A2 n2 use) (hj2 : ∀ x ∈ use, I64 x) (hnil2 : A2 = none → c2 = 0) (hnc2 : n2 ≤ c2) (_hn2 : n2 ≤ maxLen) (hl : TAsk w A3 n3 c3 l) (hs : SAsk s) (ht : I64 t) (hv : I64 u) (hG : Glob w) : Calls Tryz.prog 5 #[.slice A n c, .slice A2 n2 c2, .slice A3 n3 c3, .agg #[.int .i64 s.nodes, .int .i64 s.cores, .int .i64 s.gpus, .string s.tag, .bool s.whole, .int .i64 s.long, .int .i64 s.prio], .int .i64 t, .int .i64 u] w fun e w' => e = .returned (.bool true) ∧ Below w.heap.size w w' := by
  cases hsm : decide (SmallS n n2 n3 l 0) with
  | false => exact slotFirst_no H A n c g A2 n2 c2 use A3 n3 c3 l s t u w hl hsm hG
  | true =>
    have h := of_decide_eq_true hsm
    unfold SmallS at h
    cases h0 : firstS g use l s t u with
    | none => exact slotFirst_none H HD ⟨hr, hnil, hnc, by omega⟩ ⟨hr2, hnil2, hnc2, by omega, hj2⟩ hl (short_fewS h.2.2.2.1) hs ht hv hsm hG h0
    | some x => exact slotFirst_some H HD HM HSP ⟨hr, hnil, hnc, by omega⟩ ⟨hr2, hnil2, hnc2, by omega, hj2⟩ hl (short_fewS h.2.2.2.1) hs ht hv hsm hG h0

end Go.Proofs.YtpoalgkgomljmaaGreatDoor
