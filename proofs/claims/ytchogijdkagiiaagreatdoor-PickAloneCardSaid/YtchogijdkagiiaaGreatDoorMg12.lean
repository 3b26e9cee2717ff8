/- The program's First of layer 13. Written by gen/gen_slotp.py. The program's Busy, Get, Drop of layer 10. Written by gen/gen_heldpget.py. The program's Ends of layer 10. The program's Add of layer 10 answers a table in new memory. Written by gen/gen_heldpaddn.py. The program's functions of layer 10 keep their contracts. The program's tables of layer 9 (match) in plain words: the node that a thing is part of, how many are counted at each node, how many are left to be taken. No program's text is walked here. The program's small functions of layer 5 (graph): Tag, partOf, tagged: what they answer of any string, kinds, thing. -/
import Derived.Test.YtchogijdkagiiaaGreatDoorMg09
import Derived.Test.YtchogijdkagiiaaGreatDoorMg11
import Derived.Test.YtchogijdkagiiaaGreatDoorMg05
import Derived.Test.YtchogijdkagiiaaGreatDoorMg08
import Derived.Test.YtchogijdkagiiaaGreatDoorMg04
import Derived.LoopTactic
import Derived.Deep.QuietTactic
import Derived.BigQuiet
import Derived.Test.YtchogijdkagiiaaGreatDoorMg02
namespace Go.Proofs.YtchogijdkagiiaaGreatDoor
open Go.RowKit

theorem ticks_i64 {l : Tb} {t : Int} (hr : rightT l = true) (ht : I64 t) : ∀ x ∈ ticksS l t, I64 x := fun x hx => by
  unfold ticksS at hx
  rcases List.mem_cons.1 hx with e | e
  · rw [e]; exact ht
  · obtain ⟨_, y, hy, e2⟩ := (mem_endsT hr).1 e
    have := (rightT_is.1 hr).may y hy
    have h1 := this.2.2
    unfold I64; omega
set_option maxRecDepth 100000 in
set_option maxHeartbeats 8000000 in
theorem slotFirst_w (HD : HeldOk) {A A2 A3 : Option Addr} {n c n2 c2 n3 c3 : Nat} {g : Gr} {use : List Int} {l : Tb} {s : Sp} {t u : Int} {w : World} (hg : GAsk w A n c g) (hu : LAsk w A2 n2 c2 use) (hl : TAsk w A3 n3 c3 l) (hf : FewT l) (hs : SAsk s) (ht : I64 t) (hv : I64 u) (hG : Glob w) (hr : rightT l = false) : Calls Tryz.prog 23 #[.slice A n c, .slice A2 n2 c2, .slice A3 n3 c3, .agg #[.int .i64 s.nodes, .int .i64 s.cores, .int .i64 s.gpus, .string s.tag, .bool s.whole, .int .i64 s.long, .int .i64 s.prio], .int .i64 t, .int .i64 u] w (FTPostN 0 [] false w) := by
  have hba : Below w.heap.size w (w.alloc (.cells #[.int .i64 s.nodes, .int .i64 s.cores, .int .i64 s.gpus, .string s.tag, .bool s.whole, .int .i64 s.long, .int .i64 s.prio] 27)) := (Below.refl _ _).alloc (Nat.le_refl _) _
  have HB := Lib.hid hba
  have HG := Lib.hid (hG.next hba)
  have GA := Lib.hid (hg.next hba)
  have UA := Lib.hid (hu.next hba)
  have TA := Lib.hid (hl.next hba)
  have BS : Hid (BoxS (w.alloc (.cells #[.int .i64 s.nodes, .int .i64 s.cores, .int .i64 s.gpus, .string s.tag, .bool s.whole, .int .i64 s.long, .int .i64 s.prio] 27)) w.heap.size s) := Lib.hid (box_new w s)
  have HF := Lib.hid hf
  have HS := Lib.hid hs
  have HV := Lib.hid hv
  have HR := Lib.hid hr
  have _u := ht
  clear _u hba hG hg hu hl hf hs ht hv hr
  go_enter Tryz.func23, Tryz.ntmps23
  go_wp2_with fail
  refine (h10_right HD TA.out HF.out HR.out).mono ?_
  rintro e w1 ⟨rfl, hb⟩
  replace HB := Lib.hid (HB.out.trans (hb.mono HB.out.size))
  replace HG := Lib.hid (HG.out.next hb)
  replace GA := Lib.hid (GA.out.next hb)
  replace UA := Lib.hid (UA.out.next hb)
  replace TA := Lib.hid (TA.out.next hb)
  replace BS := Lib.hid (BS.out.next hb)
  clear hb
  go_wp2
  go_ret3
  exact ⟨⟨none, 0, rfl, RIN.nil, fun _ => rfl, Nat.le_refl _⟩, HB.out⟩
set_option maxRecDepth 100000 in
set_option maxHeartbeats 8000000 in
theorem slotFirst_y (HD : HeldOk) (HM : MatchOk) (HSP : SpecOk) {A A2 A3 : Option Addr} {n c n2 c2 n3 c3 : Nat} {g : Gr} {use : List Int} {l : Tb} {s : Sp} {t u : Int} {w : World} (hg : GAsk w A n c g) (hu : LAsk w A2 n2 c2 use) (hl : TAsk w A3 n3 c3 l) (hf : FewT l) (hs : SAsk s) (ht : I64 t) (hv : I64 u) (hG : Glob w) (hr : rightT l = true) : Calls Tryz.prog 23 #[.slice A n c, .slice A2 n2 c2, .slice A3 n3 c3, .agg #[.int .i64 s.nodes, .int .i64 s.cores, .int .i64 s.gpus, .string s.tag, .bool s.whole, .int .i64 s.long, .int .i64 s.prio], .int .i64 t, .int .i64 u] w (FTPostN (firstAtS g use l s t u) (firstLS g use l s t u) (firstBS g use l s t u) w) := by
  have hba : Below w.heap.size w (w.alloc (.cells #[.int .i64 s.nodes, .int .i64 s.cores, .int .i64 s.gpus, .string s.tag, .bool s.whole, .int .i64 s.long, .int .i64 s.prio] 27)) := (Below.refl _ _).alloc (Nat.le_refl _) _
  have HB := Lib.hid hba
  have HG := Lib.hid (hG.next hba)
  have GA := Lib.hid (hg.next hba)
  have UA := Lib.hid (hu.next hba)
  have TA := Lib.hid (hl.next hba)
  have BS : Hid (BoxS (w.alloc (.cells #[.int .i64 s.nodes, .int .i64 s.cores, .int .i64 s.gpus, .string s.tag, .bool s.whole, .int .i64 s.long, .int .i64 s.prio] 27)) w.heap.size s) := Lib.hid (box_new w s)
  have HF := Lib.hid hf
  have HS := Lib.hid hs
  have HV := Lib.hid hv
  have HR := Lib.hid hr
  obtain ⟨ts, hts⟩ : ∃ x, ticksS l t = x := ⟨_, rfl⟩
  have HTS := Lib.hid hts
  have HTI : Hid (∀ x ∈ ts, I64 x) := Lib.hid (by rw [← hts]; exact ticks_i64 hr ht)
  have hlen : ts.length ≤ 101 := by rw [← hts]; have := @ticks_len l t; have := hf.1; omega
  have HFI : Hid (∀ k, k < ts.length → (∀ j, j < k → ¬ FitsS g use l s u (ts.getD j 0)) → FitsS g use l s u (ts.getD k 0) → firstS g use l s t u = some (ts.getD k 0)) := Lib.hid (by rw [← hts]; exact fun k hk h1 h2 => tick_first hr hk h1 h2)
  have HFN : Hid ((∀ j, j < ts.length → ¬ FitsS g use l s u (ts.getD j 0)) → firstS g use l s t u = none) := Lib.hid (by rw [← hts]; exact fun h => tick_none hr h)
  obtain ⟨r1, hr1⟩ : ∃ r, firstAtS g use l s t u = r := ⟨_, rfl⟩
  obtain ⟨r2, hr2⟩ : ∃ r, firstLS g use l s t u = r := ⟨_, rfl⟩
  obtain ⟨r3, hr3⟩ : ∃ r, firstBS g use l s t u = r := ⟨_, rfl⟩
  have HRES := Lib.hid (show firstAtS g use l s t u = r1 ∧ firstLS g use l s t u = r2 ∧ firstBS g use l s t u = r3 from ⟨hr1, hr2, hr3⟩)
  rw [hr1, hr2, hr3]
  clear hba hG hg hu hl hf hs ht hv hr hts hr1 hr2 hr3
  go_enter Tryz.func23, Tryz.ntmps23
  go_wp2_with fail
  refine (h10_right HD TA.out HF.out HR.out).mono ?_
  rintro e w1 ⟨rfl, hb⟩
  replace HB := Lib.hid (HB.out.trans (hb.mono HB.out.size))
  replace HG := Lib.hid (HG.out.next hb)
  replace GA := Lib.hid (GA.out.next hb)
  replace UA := Lib.hid (UA.out.next hb)
  replace TA := Lib.hid (TA.out.next hb)
  replace BS := Lib.hid (BS.out.next hb)
  clear hb
  go_wp2_with fail
  refine (calls_ipost (slotTimes_any HD _ _ _ _ _ _ TA.out HF.out) HTS.out).mono ?_
  rintro e w2 ⟨⟨A5, c5, rfl, hr5, _, _⟩, hb⟩
  replace HB := Lib.hid (HB.out.trans (hb.mono HB.out.size))
  replace HG := Lib.hid (HG.out.next hb)
  replace GA := Lib.hid (GA.out.next hb)
  replace UA := Lib.hid (UA.out.next hb)
  replace TA := Lib.hid (TA.out.next hb)
  replace BS := Lib.hid (BS.out.next hb)
  clear hb
  have TS := Lib.hid hr5
  clear hr5
  obtain ⟨L, hL⟩ : ∃ L, ts.length = L := ⟨_, rfl⟩
  have HLL := Lib.hid hL
  rw [hL] at TS hlen ⊢
  clear hL
  go_wp2_with fail
  go_loopw [26] (fun iv wr => ∃ k : Nat, k ≤ L ∧ iv = .int .i64 k ∧ (∀ j, j < k → ¬ FitsS g use l s u (ts.getD j 0)) ∧ Below w2.heap.size w2 wr) (fun iv _ => L - (intOf iv).toNat)
  case atStart => exact ⟨0, Nat.zero_le _, rfl, fun j hj => by omega, Below.refl _ _⟩
  case round =>
    obtain ⟨k, hk, rfl, hno, hbel⟩ := hrel
    have HNO := Lib.hid hno
    have HB4 := Lib.hid (HB.out.trans (hbel.mono HB.out.size))
    have HG4 := Lib.hid (HG.out.next hbel)
    have GA4 := Lib.hid (GA.out.next hbel)
    have UA4 := Lib.hid (UA.out.next hbel)
    have TA4 := Lib.hid (TA.out.next hbel)
    have BS4 := Lib.hid (BS.out.next hbel)
    have TS4 := Lib.hid (TS.out.next hbel)
    have HBL := Lib.hid hbel
    clear hno hbel
    by_cases hlt : k < L
    · obtain ⟨bt, offt, hA5, hbt, ck⟩ := TS4.out.one hlt
      subst hA5
      obtain ⟨x, hx⟩ : ∃ x, ts.getD k 0 = x := ⟨_, rfl⟩
      have HXI : Hid (I64 x) := Lib.hid (HTI.out x (by
        have h1 : k < ts.length := by rw [HLL.out]; exact hlt
        rw [← hx, List.getD, List.getElem?_eq_getElem h1]; exact List.getElem_mem h1))
      have HX := Lib.hid hx
      rw [hx] at ck
      clear hx
      have HC := Lib.hid (slotAt_any (t := x) (u := u) HD HM HSP GA4.out UA4.out TA4.out HF.out HS.out HXI.out HV.out HG4.out HR.out)
      cases hf : decide (FitsS g use l s u x) with
      | true =>
        rw [hf] at HC
        have HZ : Hid (r1 = x ∧ r2 = gotS g use l s u x ∧ r3 = true) := Lib.hid (by
          have h1 := HFI.out k (by rw [HLL.out]; exact hlt) HNO.out (by rw [HX.out]; exact of_decide_eq_true hf)
          rw [HX.out] at h1
          have h2 := first_some h1
          rw [HRES.out.1, HRES.out.2.1, HRES.out.2.2] at h2
          exact h2)
        obtain ⟨gl, hgl⟩ : ∃ y, gotS g use l s u x = y := ⟨_, rfl⟩
        rw [hgl] at HC HZ
        clear hf hgl
        have q0 := BS4.out.c0
        have q1 := BS4.out.c1
        have q2 := BS4.out.c2
        have q3 := BS4.out.c3
        have q4 := BS4.out.c4
        have q5 := BS4.out.c5
        have q6 := BS4.out.c6
        go_wp2_with fail
        refine HC.out.mono ?_
        rintro e w7 ⟨⟨A7, c7, rfl, hr7, hn7, hc7⟩, hb⟩
        have R7 := Lib.hid (hr7.mono HB4.out.size)
        have N7 := Lib.hid hn7
        have C7 := Lib.hid hc7
        have HBZ := Lib.hid (HB4.out.trans (hb.mono HB4.out.size))
        clear q0 q1 q2 q3 q4 q5 q6
        clear hr7 hn7 hc7 hb ck hbt HC
        go_wp2
        go_ret3
        rw [HZ.out.1, HZ.out.2.1, HZ.out.2.2]
        exact ⟨⟨A7, c7, rfl, R7.out, N7.out, C7.out⟩, HBZ.out⟩
      | false =>
        rw [hf] at HC
        have HN : Hid (∀ j, j < k + 1 → ¬ FitsS g use l s u (ts.getD j 0)) := Lib.hid (fun j hj => by
          by_cases hjk : j = k
          · rw [hjk, HX.out]; exact of_decide_eq_false hf
          · exact HNO.out j (by omega))
        clear hf
        have q0 := BS4.out.c0
        have q1 := BS4.out.c1
        have q2 := BS4.out.c2
        have q3 := BS4.out.c3
        have q4 := BS4.out.c4
        have q5 := BS4.out.c5
        have q6 := BS4.out.c6
        go_wp2_with fail
        refine HC.out.mono ?_
        rintro e w7 ⟨⟨A7, c7, rfl, _, _, _⟩, hb⟩
        have HBZ := Lib.hid (HBL.out.trans (hb.mono HBL.out.size))
        clear q0 q1 q2 q3 q4 q5 q6
        clear hb ck hbt HC
        go_wp2
        go_roundw
        case rel => exact ⟨k + 1, by omega, by go_num, HN.out, HBZ.out⟩
        case measure => simp [intOf] <;> omega
    · have HZ : Hid (r1 = 0 ∧ r2 = [] ∧ r3 = false) := Lib.hid (by
        have h1 := first_none (HFN.out fun j hj => HNO.out j (by rw [HLL.out] at hj; omega))
        rw [HRES.out.1, HRES.out.2.1, HRES.out.2.2] at h1
        exact h1)
      go_wp2
      go_ret3
      rw [HZ.out.1, HZ.out.2.1, HZ.out.2.2]
      exact ⟨⟨none, 0, rfl, RIN.nil, fun _ => rfl, Nat.le_refl _⟩, HB4.out⟩
theorem slotFirst_any (HD : HeldOk) (HM : MatchOk) (HSP : SpecOk) {A A2 A3 : Option Addr} {n c n2 c2 n3 c3 : Nat} {g : Gr} {use : List Int} {l : Tb} {s : Sp} {t u : Int} {w : World} (hg : GAsk w A n c g) (hu : LAsk w A2 n2 c2 use) (hl : TAsk w A3 n3 c3 l) (hf : FewT l) (hs : SAsk s) (ht : I64 t) (hv : I64 u) (hG : Glob w) : Calls Tryz.prog 23 #[.slice A n c, .slice A2 n2 c2, .slice A3 n3 c3, .agg #[.int .i64 s.nodes, .int .i64 s.cores, .int .i64 s.gpus, .string s.tag, .bool s.whole, .int .i64 s.long, .int .i64 s.prio], .int .i64 t, .int .i64 u] w (FTPostN (firstAtS g use l s t u) (firstLS g use l s t u) (firstBS g use l s t u) w) := by
  cases hr : rightT l with
  | true => exact slotFirst_y HD HM HSP hg hu hl hf hs ht hv hG hr
  | false =>
    obtain ⟨e1, e2, e3⟩ := first_none (first_wrong (g := g) (use := use) (s := s) (t := t) (u := u) hr)
    rw [e1, e2, e3]
    exact slotFirst_w HD hg hu hl hf hs ht hv hG hr

end Go.Proofs.YtchogijdkagiiaaGreatDoor

namespace Go.Proofs.YtchogijdkagiiaaGreatDoor
open Go.RowKit

theorem heldBusy_any (A : Option Addr) (n c : Nat) (l : Tb) (a b : Int) (w : World) (hl : TAsk w A n c l) (hf : FewT l) :
    Calls Tryz.prog 21 #[.slice A n c, .int .i64 a, .int .i64 b] w (IPost (busyT l a b) w) := by
  cases h1 : rightT l with
  | false =>
    have e : busyT l a b = [] := by unfold busyT; rw [h1]; rfl
    rw [e]
    have R1 := Lib.hid h1
    have HT := Lib.hid hl
    have HF := Lib.hid hf
    clear h1 hl hf e
    go_enter Tryz.func21, Tryz.ntmps21
    go_wp2_with fail
    refine (heldRight_b HT.out.reads HT.out.nil HF.out R1.out).mono ?_
    rintro e w1 ⟨rfl, hb⟩
    have HB := Lib.hid hb
    clear hb
    go_wp2
    go_ret
    exact ipost_nil HB.out
  | true =>
    have R1 := Lib.hid h1
    have HT := Lib.hid hl
    have HF := Lib.hid hf
    obtain ⟨r, hr'⟩ : ∃ r, busyT l a b = r := ⟨_, rfl⟩
    have HRR := Lib.hid hr'
    rw [hr']
    clear h1 hl hf hr'
    go_enter Tryz.func21, Tryz.ntmps21
    go_wp2_with fail
    refine (heldRight_b HT.out.reads HT.out.nil HF.out R1.out).mono ?_
    rintro e w1 ⟨rfl, hb⟩
    have HB := Lib.hid hb
    have HT1 := Lib.hid (HT.out.next hb)
    clear hb
    go_wp2_with fail
    refine (calls_ipost (busy_any A n c l a b w1 HT1.out.reads HF.out R1.out) HRR.out).mono ?_
    rintro e w2 ⟨⟨A2, c2, rfl, hr, hnil, hc⟩, hb⟩
    have HP : Hid (IPost r w (.returned (.slice A2 r.length c2)) w2) := Lib.hid ⟨⟨A2, c2, rfl, hr, hnil, hc⟩, HB.out.trans (hb.mono HB.out.size)⟩
    clear hr hnil hc hb
    go_wp2
    go_ret
    exact HP.out

theorem BoxH.store4 {wr : World} {g : Nat} {x : Hd} {A : Option Addr} {m c : Nat} (b : BoxH wr g x A m c) (h : Hd) (A2 : Option Addr) (m2 c2 : Nat) :
    BoxH ((((wr.setCell ⟨g, 0, none⟩ (.int .i64 h.id)).setCell ⟨g, 1, none⟩ (.slice A2 m2 c2)).setCell ⟨g, 2, none⟩ (.int .i64 h.frm)).setCell ⟨g, 3, none⟩ (.int .i64 h.to)) g h A2 m2 c2 :=
  (((b.set (h' := ⟨h.id, [], x.frm, x.to⟩) rfl).set (h' := ⟨h.id, [], x.frm, x.to⟩) rfl).set (h' := ⟨h.id, [], h.frm, x.to⟩) rfl).set (h' := h) rfl
theorem below_four {B g : Nat} {w wr : World} {v0 v1 v2 v3 : Value} (hb : Below B w wr) (hg : B ≤ g) : Below B w ((((wr.setCell ⟨g, 0, none⟩ v0).setCell ⟨g, 1, none⟩ v1).setCell ⟨g, 2, none⟩ v2).setCell ⟨g, 3, none⟩ v3) :=
  (((hb.setCell (p := ⟨g, _, none⟩) hg v0).setCell (p := ⟨g, _, none⟩) hg v1).setCell (p := ⟨g, _, none⟩) hg v2).setCell (p := ⟨g, _, none⟩) hg v3
theorem four_other {b g : Nat} {wr : World} {v0 v1 v2 v3 : Value} (h : b ≠ g) : ((((wr.setCell ⟨g, 0, none⟩ v0).setCell ⟨g, 1, none⟩ v1).setCell ⟨g, 2, none⟩ v2).setCell ⟨g, 3, none⟩ v3).heap[b]? = wr.heap[b]? := by
  rw [Below.heap_setCell _ _ _ _ h, Below.heap_setCell _ _ _ _ h, Below.heap_setCell _ _ _ _ h, Below.heap_setCell _ _ _ _ h]
theorem four_size {g : Nat} {wr : World} {v0 v1 v2 v3 : Value} : ((((wr.setCell ⟨g, 0, none⟩ v0).setCell ⟨g, 1, none⟩ v1).setCell ⟨g, 2, none⟩ v2).setCell ⟨g, 3, none⟩ v3).heap.size = wr.heap.size := by simp [World.setCell]
/-- a holding as an element, as one by value -/
theorem EH.ask {w : World} {ok : Nat → Prop} {h : Hd} {A : Option Addr} {m c : Nat} (he : EH w ok h [.int .i64 h.id, .slice A m c, .int .i64 h.frm, .int .i64 h.to]) (hok : ∀ b, ok b → b < w.heap.size) : HAsk w A m c h := by
  obtain ⟨A', m', c', hv, hr, h1, h2, h3, h4⟩ := he
  injection hv with _ hv
  injection hv with hv _
  injection hv with e1 e2 e3
  subst e1 e2 e3
  exact ⟨RN.ri (hr.keep ei_steady (fun _ _ => rfl) hok), h1, h2, h3, h4⟩
theorem hd0_ask (w : World) : HAsk w none 0 0 hd0 := ⟨RI.nil, fun _ => rfl, Nat.le_refl _, Nat.zero_le _, ⟨(by unfold I64; simp [hd0]), (by unfold I64; simp [hd0]), (by unfold I64; simp [hd0]), fun n hn => by cases hn⟩⟩

set_option maxRecDepth 100000 in
set_option maxHeartbeats 8000000 in
theorem heldGet_1 (A : Option Addr) (n c : Nat) (l : Tb) (id : Int) (w : World) (hl : TAsk w A n c l) (hf : FewT l) (h1 : rightT l = false) :
    Calls Tryz.prog 24 #[.slice A n c, .int .i64 id] w (GHPost hd0 false w) := by
  obtain ⟨W, hW⟩ : ∃ W, W = w.alloc (hO hd0 none 0 0) := ⟨_, rfl⟩
  have BR : Hid (BoxH W w.heap.size hd0 none 0 0) := Lib.hid (by rw [hW]; exact boxH_new w hd0 none 0 0)
  have hb0 : Below w.heap.size w W := by rw [hW]; exact (Below.refl _ _).alloc (Nat.le_refl _) _
  have HB := Lib.hid hb0
  have HT := Lib.hid (hl.next hb0)
  have HF := Lib.hid hf
  have HLN := Lib.hid hl.reads.len
  have hn100 : n ≤ 100 := by rw [← hl.reads.len]; exact hf.1
  have R1 := Lib.hid h1
  clear h1
  unfold hO at hW
  simp only [hd0] at hW
  clear hb0 hl hf
  go_enter Tryz.func24, Tryz.ntmps24
  go_wp2_with fail
  rw [← hW]
  refine (heldRight_b HT.out.reads HT.out.nil HF.out R1.out).mono ?_
  rintro e w1 ⟨rfl, hb⟩
  replace HB := Lib.hid (HB.out.trans (hb.mono HB.out.size))
  replace HT := Lib.hid (HT.out.next hb)
  replace BR := Lib.hid (BR.out.next hb)
  clear hb
  clear hW
  have p0 := BR.out.c0
  have y0 := BR.out.frozen 0
  have p1 := BR.out.c1
  have y1 := BR.out.frozen 1
  have p2 := BR.out.c2
  have y2 := BR.out.frozen 2
  have p3 := BR.out.c3
  have y3 := BR.out.frozen 3
  go_wp2
  have b1 := BR.out.store4 hd0 none 0 0
  have r0 := b1.c0
  have r1 := b1.c1
  have r2 := b1.c2
  have r3 := b1.c3
  simp only [hd0] at r0 r1 r2 r3
  refine bodyPost_ret (v := .tuple #[.agg #[.int .i64 hd0.id, .slice none 0 0, .int .i64 hd0.frm, .int .i64 hd0.to], .bool false]) (by simp [results, Tryz.results24, go_sem, hd0, r0, r1, r2, r3]) rfl ⟨⟨none, 0, 0, rfl, hd0_ask _⟩, below_four HB.out (Nat.le_refl _)⟩

set_option maxRecDepth 100000 in
set_option maxHeartbeats 8000000 in
theorem heldGet_2 (A : Option Addr) (n c : Nat) (l : Tb) (id : Int) (w : World) (hl : TAsk w A n c l) (hf : FewT l) (h1 : rightT l = true) (h2 : hasT l id = false) :
    Calls Tryz.prog 24 #[.slice A n c, .int .i64 id] w (GHPost hd0 false w) := by
  obtain ⟨W, hW⟩ : ∃ W, W = w.alloc (hO hd0 none 0 0) := ⟨_, rfl⟩
  have BR : Hid (BoxH W w.heap.size hd0 none 0 0) := Lib.hid (by rw [hW]; exact boxH_new w hd0 none 0 0)
  have hb0 : Below w.heap.size w W := by rw [hW]; exact (Below.refl _ _).alloc (Nat.le_refl _) _
  have HB := Lib.hid hb0
  have HT := Lib.hid (hl.next hb0)
  have HF := Lib.hid hf
  have HLN := Lib.hid hl.reads.len
  have hn100 : n ≤ 100 := by rw [← hl.reads.len]; exact hf.1
  have R1 := Lib.hid h1
  have HHAS := Lib.hid h2
  have HIDS := Lib.hid (rightT_is.1 h1).ids
  clear h1 h2
  unfold hO at hW
  simp only [hd0] at hW
  clear hb0 hl hf
  go_enter Tryz.func24, Tryz.ntmps24
  go_wp2_with fail
  rw [← hW]
  refine (heldRight_b HT.out.reads HT.out.nil HF.out R1.out).mono ?_
  rintro e w1 ⟨rfl, hb⟩
  replace HB := Lib.hid (HB.out.trans (hb.mono HB.out.size))
  replace HT := Lib.hid (HT.out.next hb)
  replace BR := Lib.hid (BR.out.next hb)
  clear hb
  clear hW
  go_wp2_with fail
  refine (hfind_any A n c l id _ HT.out.reads (by omega) HIDS.out).mono ?_
  rintro e w2 ⟨⟨K, rfl, hK⟩, hb⟩
  have HK := Lib.hid hK
  have HHE : Hid (hereB l id K = false) := Lib.hid (by rw [here_has HIDS.out hK]; exact HHAS.out)
  rw [HHE.out]
  clear hK
  replace HB := Lib.hid (HB.out.trans (hb.mono HB.out.size))
  replace HT := Lib.hid (HT.out.next hb)
  replace BR := Lib.hid (BR.out.next hb)
  clear hb
  have p0 := BR.out.c0
  have y0 := BR.out.frozen 0
  have p1 := BR.out.c1
  have y1 := BR.out.frozen 1
  have p2 := BR.out.c2
  have y2 := BR.out.frozen 2
  have p3 := BR.out.c3
  have y3 := BR.out.frozen 3
  go_wp2
  have b1 := BR.out.store4 hd0 none 0 0
  have r0 := b1.c0
  have r1 := b1.c1
  have r2 := b1.c2
  have r3 := b1.c3
  simp only [hd0] at r0 r1 r2 r3
  refine bodyPost_ret (v := .tuple #[.agg #[.int .i64 hd0.id, .slice none 0 0, .int .i64 hd0.frm, .int .i64 hd0.to], .bool false]) (by simp [results, Tryz.results24, go_sem, hd0, r0, r1, r2, r3]) rfl ⟨⟨none, 0, 0, rfl, hd0_ask _⟩, below_four HB.out (Nat.le_refl _)⟩

set_option maxRecDepth 100000 in
set_option maxHeartbeats 8000000 in
theorem heldGet_3 (A : Option Addr) (n c : Nat) (l : Tb) (id : Int) (w : World) (hl : TAsk w A n c l) (hf : FewT l) (h1 : rightT l = true) (h2 : hasT l id = true) :
    Calls Tryz.prog 24 #[.slice A n c, .int .i64 id] w (GHPost (getT l id) true w) := by
  obtain ⟨W, hW⟩ : ∃ W, W = w.alloc (hO hd0 none 0 0) := ⟨_, rfl⟩
  have BR : Hid (BoxH W w.heap.size hd0 none 0 0) := Lib.hid (by rw [hW]; exact boxH_new w hd0 none 0 0)
  have hb0 : Below w.heap.size w W := by rw [hW]; exact (Below.refl _ _).alloc (Nat.le_refl _) _
  have HB := Lib.hid hb0
  have HT := Lib.hid (hl.next hb0)
  have HF := Lib.hid hf
  have HLN := Lib.hid hl.reads.len
  have hn100 : n ≤ 100 := by rw [← hl.reads.len]; exact hf.1
  have R1 := Lib.hid h1
  have HHAS := Lib.hid h2
  have HIDS := Lib.hid (rightT_is.1 h1).ids
  obtain ⟨gx, hgx⟩ : ∃ gx, getT l id = gx := ⟨_, rfl⟩
  have HGX := Lib.hid hgx
  rw [hgx]
  clear h1 h2 hgx
  unfold hO at hW
  simp only [hd0] at hW
  clear hb0 hl hf
  go_enter Tryz.func24, Tryz.ntmps24
  go_wp2_with fail
  rw [← hW]
  refine (heldRight_b HT.out.reads HT.out.nil HF.out R1.out).mono ?_
  rintro e w1 ⟨rfl, hb⟩
  replace HB := Lib.hid (HB.out.trans (hb.mono HB.out.size))
  replace HT := Lib.hid (HT.out.next hb)
  replace BR := Lib.hid (BR.out.next hb)
  clear hb
  clear hW
  go_wp2_with fail
  refine (hfind_any A n c l id _ HT.out.reads (by omega) HIDS.out).mono ?_
  rintro e w2 ⟨⟨K, rfl, hK⟩, hb⟩
  have HK := Lib.hid hK
  have HHE : Hid (hereB l id K = true) := Lib.hid (by rw [here_has HIDS.out hK]; exact HHAS.out)
  rw [HHE.out]
  clear hK
  replace HB := Lib.hid (HB.out.trans (hb.mono HB.out.size))
  replace HT := Lib.hid (HT.out.next hb)
  replace BR := Lib.hid (BR.out.next hb)
  clear hb
  have hKl := (here_facts HHE.out).1
  have hga := get_at R1.out HHE.out
  rw [HGX.out] at hga
  have hKn : K < n := by rw [← HLN.out]; exact hKl
  have hmx := HF.out.at hKl
  obtain ⟨b, off, A2, m2, c2, rfl, hbl, c0, c1, c2', c3, hx⟩ := HT.out.reads.one hKn
  obtain ⟨x, hxx⟩ : ∃ x, l.getD K hd0 = x := ⟨_, rfl⟩
  rw [hxx] at c0 c2' c3 hx hmx hga
  have hga2 := hga.symm
  subst hga2
  have HX := Lib.hid hx
  have hm2 : m2 ≤ 1000 := by have := hx.reads.1; omega
  clear hx hxx hmx hKl hga
  go_wp2_with fail
  refine (own_any A2 m2 c2 x _ HX.out hm2).mono ?_
  rintro e w3 ⟨⟨A5, c5, rfl, hx5, he5⟩, hb⟩
  have hlt5 := BR.out.lt
  have HE5 := Lib.hid he5
  have HLT := Lib.hid hlt5
  clear hx5 he5 hlt5
  replace HB := Lib.hid (HB.out.trans (hb.mono HB.out.size))
  replace HT := Lib.hid (HT.out.next hb)
  replace BR := Lib.hid (BR.out.next hb)
  clear hb
  clear c0 c1 c2' c3
  have p0 := BR.out.c0
  have y0 := BR.out.frozen 0
  have p1 := BR.out.c1
  have y1 := BR.out.frozen 1
  have p2 := BR.out.c2
  have y2 := BR.out.frozen 2
  have p3 := BR.out.c3
  have y3 := BR.out.frozen 3
  go_wp2
  have b1 := BR.out.store4 x A5 m2 c5
  have r0 := b1.c0
  have r1 := b1.c1
  have r2 := b1.c2
  have r3 := b1.c3
  refine bodyPost_ret (v := .tuple #[.agg #[.int .i64 x.id, .slice A5 m2 c5, .int .i64 x.frm, .int .i64 x.to], .bool true]) (by simp [results, Tryz.results24, go_sem, r0, r1, r2, r3]) rfl ⟨⟨A5, m2, c5, rfl, ?_⟩, below_four HB.out (Nat.le_refl _)⟩
  exact EH.ask (eh_steady.keep HE5.out (fun b hb => four_other (by have := HLT.out; omega)) (ok' := fun b => b < _) (fun b hb => by rw [four_size]; exact hb.2)) (fun _ h => h)

theorem heldGet_any (A : Option Addr) (n c : Nat) (l : Tb) (id : Int) (w : World) (hl : TAsk w A n c l) (hf : FewT l) : Calls Tryz.prog 24 #[.slice A n c, .int .i64 id] w (GHPost (getT l id) (gotT l id) w) := by
  cases h1 : rightT l with
  | false =>
    have e : gotT l id = false := by unfold gotT; rw [h1]; rfl
    rw [get_none e, e]
    exact heldGet_1 A n c l id w hl hf h1
  | true =>
    have e : gotT l id = hasT l id := by unfold gotT; rw [h1]; rfl
    rw [e]
    cases h2 : hasT l id with
    | false =>
      rw [get_none (e.trans h2)]
      exact heldGet_2 A n c l id w hl hf h1 h2
    | true => exact heldGet_3 A n c l id w hl hf h1 h2

end Go.Proofs.YtchogijdkagiiaaGreatDoor

namespace Go.Proofs.YtchogijdkagiiaaGreatDoor
open Go.RowKit

set_option maxRecDepth 100000 in
set_option maxHeartbeats 8000000 in
theorem heldEnds_yes (A : Option Addr) (n c : Nat) (l : Tb) (z : Int) (w : World) (hl : TAsk w A n c l) (hf : FewT l) (hrt : rightT l = true) :
    Calls Tryz.prog 70 #[.slice A n c, .int .i64 z] w (IPost (endsT l z) w) := by
  obtain ⟨i0, hi0, hz0, hz1, hz2⟩ := info_parts int64_infoH
  have HT := Lib.hid hl
  have HF := Lib.hid hf
  have R1 := Lib.hid hrt
  have HL := Lib.hid hl.reads.len
  have hn100 : n ≤ 100 := by rw [← hl.reads.len]; exact hf.1
  obtain ⟨L, hLL⟩ : ∃ L, (l.map Hd.to).filter (fun t => decide (z < t)) = L := ⟨_, rfl⟩
  have HLL := Lib.hid hLL
  have HE : Hid (endsT l z = L.foldr insZ []) := Lib.hid (by unfold endsT; rw [if_pos hrt, hLL])
  rw [HE.out]
  clear hl hf hrt hLL
  go_enter Tryz.func70, Tryz.ntmps70
  go_wp2_with fail
  refine (heldRight_b HT.out.reads HT.out.nil HF.out R1.out).mono ?_
  rintro e w1 ⟨rfl, hb1⟩
  have HB1 := Lib.hid hb1
  have HT1 := Lib.hid (HT.out.next hb1)
  clear hb1
  go_wp2
  go_loopw [5, 13] (fun v i wr => ∃ k : Nat, k ≤ n ∧ i = .int .i64 k ∧ ON EI 1 2 w1 v (((l.take k).map Hd.to).filter (fun t => decide (z < t))) wr) (fun _ i _ => n - (intOf i).toNat)
  case atStart => exact ⟨0, Nat.zero_le _, rfl, ON.nil _⟩
  case round =>
    obtain ⟨k, hk, rfl, hrel⟩ := hrel
    have HK := Lib.hid hrel
    clear hrel
    by_cases hlt : k < n
    · have hkl : k < l.length := by rw [HL.out]; exact hlt
      have HLA : Hid ((((l.take k).map Hd.to).filter (fun t => decide (z < t))).length ≤ 1000) := Lib.hid (by have := List.length_filter_le (fun t : Int => decide (z < t)) ((l.take k).map Hd.to); rw [List.length_map, List.length_take] at this; omega)
      obtain ⟨b, off, A2, m2, c2, rfl, hbl, c0, c1', c2', c3', hx⟩ := RT.one (HT1.out.reads.next HK.out.below) hlt
      have hyes := ends_take_yes (z := z) hkl
      have hno := ends_take_no (z := z) hkl
      obtain ⟨x, hxx⟩ : ∃ x, l.getD k hd0 = x := ⟨_, rfl⟩
      rw [hxx] at c0 c2' c3' hyes hno
      have hba : Below wr.heap.size wr (wr.alloc (hO x A2 m2 c2)) := (Below.refl _ _).alloc (Nat.le_refl _) _
      have HKa := Lib.hid (HK.out.next ei_steady hba)
      have HBX : Hid (BoxH (wr.alloc (hO x A2 m2 c2)) wr.heap.size x A2 m2 c2) := Lib.hid (boxH_new wr x A2 m2 c2)
      unfold hO at HKa HBX
      obtain ⟨Wa, hWa⟩ : ∃ Wa, wr.alloc (.cells #[.int .i64 x.id, .slice A2 m2 c2, .int .i64 x.frm, .int .i64 x.to] 41) = Wa := ⟨_, rfl⟩
      rw [hWa] at HKa HBX
      have q3 := HBX.out.c3
      by_cases hto : z < x.to
      · have d0 : decide (z < x.to) = true := decide_eq_true hto
        have HS := Lib.hid (hyes hto)
        clear hyes hno hx hxx hto hkl hba hbl
        go_wp2_with (at_builtin; refine append_EI rfl (.tmp 21) (.tmp 24) 78 2 rfl HKa.out i0 Tryz.underlying78 hi0 hz0 hz1 hz2 rfl _ rfl HLA.out ?_; intro v' w4 hON4; refine Hid.out ?_)
        refine Lib.hid ?_
        have HO4 := Lib.hid hON4
        clear hON4 c0 c1' c2' c3' q3
        go_wp2
        go_roundw
        case rel => exact ⟨k + 1, by omega, by go_num, by rw [HS.out]; exact HO4.out⟩
        case measure => simp [intOf]; omega
      · have d0 : decide (z < x.to) = false := decide_eq_false hto
        have HS := Lib.hid (hno hto)
        clear hyes hno hx hxx hto hkl hba hbl
        go_wp2_with (simp only [hWa])
        go_roundw
        case rel => exact ⟨k + 1, by omega, by go_num, by rw [HS.out]; exact HKa.out⟩
        case measure => simp [intOf]; omega
    · have hkn : k = n := by omega
      have htk : l.take k = l := List.take_of_length_le (by rw [HL.out]; omega)
      rw [htk, HLL.out] at HK
      obtain ⟨A1, c1, rfl, hnil1, hc1⟩ := HK.out.form
      have hLn : L.length ≤ 1000 := by
        rw [← HLL.out]
        have := List.length_filter_le (fun t : Int => decide (z < t)) (l.map Hd.to)
        rw [List.length_map, HL.out] at this
        omega
      have HC1 := Lib.hid hc1
      have HN1 := Lib.hid hnil1
      have HLn := Lib.hid hLn
      obtain ⟨len, hlen⟩ : ∃ len, L.length = len := ⟨_, rfl⟩
      have HLEN := Lib.hid hlen
      rw [hlen] at HK HC1 HLn ⊢
      clear htk hnil1 hc1 hLn hlen
      go_wp2_with fail
      refine (sortTimes_any A1 len c1 L w1 wr HK.out HLEN.out HLn.out).mono ?_
      rintro e w5 ⟨rfl, hb5, hs⟩
      have HB5 := Lib.hid hb5
      rcases hs with h0 | ⟨g, rfl, hgb, hgl, hH⟩
      · subst h0
        have HE0 : Hid (L.foldr insZ [] = []) := Lib.hid (by
          have : L = [] := List.eq_nil_of_length_eq_zero HLEN.out
          rw [this]
          rfl)
        clear hb5
        go_wp2_with fail
        refine (compact_short A1 0 c1 w5 (by omega)).mono ?_
        rintro e w6 ⟨rfl, rfl⟩
        have HP : Hid (IPost (L.foldr insZ []) w (.returned (.slice A1 0 c1)) w6) := Lib.hid (by
          rw [HE0.out]
          exact ipost_mk RI.nil HN1.out HC1.out (HB1.out.trans (HB5.out.mono HB1.out.size)))
        go_wp2
        go_ret
        exact HP.out
      · have HS5 := Lib.hid (compactTimes_any g len c1 (L.mergeSort fun x y => decide (x ≤ y)) w1 w5 hb5 hgb hgl hH (by rw [List.length_mergeSort, HLEN.out]) HLn.out HC1.out)
        rw [compact_sort] at HS5
        clear hb5 hgb hgl hH
        go_wp2_with fail
        refine HS5.out.mono ?_
        rintro e w6 ⟨⟨A6, c6, rfl, hr6, hn6, hc6⟩, hb6⟩
        have HP : Hid (IPost (L.foldr insZ []) w (.returned (.slice A6 (L.foldr insZ []).length c6)) w6) := Lib.hid ⟨⟨A6, c6, rfl, hr6, hn6, hc6⟩, HB1.out.trans (hb6.mono HB1.out.size)⟩
        obtain ⟨r, hr⟩ : ∃ r, (L.foldr insZ []).length = r := ⟨_, rfl⟩
        rw [hr] at HP ⊢
        clear hr6 hn6 hc6 hb6 hr
        go_wp2
        go_ret
        exact HP.out
theorem heldEnds_any (A : Option Addr) (n c : Nat) (l : Tb) (z : Int) (w : World) (hl : TAsk w A n c l) (hf : FewT l) :
    Calls Tryz.prog 70 #[.slice A n c, .int .i64 z] w (IPost (endsT l z) w) := by
  cases h1 : rightT l with
  | true => exact heldEnds_yes A n c l z w hl hf h1
  | false =>
    have e : endsT l z = [] := by unfold endsT; rw [h1, if_neg (by simp)]
    rw [e]
    have R1 := Lib.hid h1
    have HT := Lib.hid hl
    have HF := Lib.hid hf
    clear h1 hl hf e
    go_enter Tryz.func70, Tryz.ntmps70
    go_wp2_with fail
    refine (heldRight_b HT.out.reads HT.out.nil HF.out R1.out).mono ?_
    rintro e w1 ⟨rfl, hb⟩
    have HB := Lib.hid hb
    clear hb
    go_wp2
    go_ret
    exact ipost_nil HB.out

end Go.Proofs.YtchogijdkagiiaaGreatDoor

namespace Go.Proofs.YtchogijdkagiiaaGreatDoor
open Go.RowKit

theorem ins_onN {P : Nat → Prop} {w w6 w7 : World} {v v' : Value} {n : Nat} {l' : Tb} {fl' : List Value} (hb : Below w.heap.size w w6) (hq : w7.ownsRow w.heap.size 41 4 v' n fl') (h2 : Below w.heap.size w6 w7) (hk : Keeps w6 v w7 v') (hl : l'.length = n)
    (hE : ∀ j x, l'[j]? = some x → EH w6 (fun b => (b < w6.heap.size ∧ v.ownBlock ≠ some b) ∧ P b) x ((fl'.drop (j * 4)).take 4)) : ON (EHp P) 4 41 w v' l' w7 := by
  refine ⟨fl', by rw [hl]; exact hq, hb.trans h2, fun j x hx => eh_steady.keep (hE j x hx) (fun b hb => hk.block b hb.1.1 hb.1.2) (fun b hb => ⟨⟨Nat.lt_of_lt_of_le hb.1.1 hk.size, fun e => ?_⟩, hb.2⟩)⟩
  rcases hk.own with h' | h'
  · exact hb.1.2 (h'.symm.trans e)
  · have := h' b e; have := hb.1.1; omega
/-- a row of one's own, counted from an earlier world -/
theorem on_base {w W wr : World} {v : Value} {l : Tb} {t : TypeId} (h : ON (EHp (fun b => W.heap.size ≤ b)) 4 t W v l wr) (hs : w.heap.size ≤ W.heap.size) (hb : Below w.heap.size w wr) : ON (EHp (fun b => w.heap.size ≤ b)) 4 t w v l wr := by
  obtain ⟨fl, h1, _, h3⟩ := h
  refine ⟨fl, ⟨h1.1, h1.2.imp id ?_⟩, hb, fun j x hx => eh_steady.keep (h3 j x hx) (fun _ _ => rfl) (fun b hb => ⟨hb.1, Nat.le_trans hs hb.2⟩)⟩
  rintro ⟨g, cap, cur, e1, e2, e3⟩
  exact ⟨g, cap, cur, e1, Nat.le_trans hs e2, e3⟩
/-- a holding more in a table of one's own, all of it in blocks of one kind -/
theorem insertH_onN {P : Nat → Prop} {W wr : World} {A : Option Addr} {n c K : Nat} {l : Tb} {h : Hd} {A5 : Option Addr} {m c5 : Nat} (hO : ON (EHp P) 4 41 W (.slice A n c) l wr) (hn : n ≤ 3000) (hln : l.length = n) (hK : K ≤ n) (hh : EHp P wr (fun b => b < wr.heap.size ∧ (Value.slice A n c).ownBlock ≠ some b) h [.int .i64 h.id, .slice A5 m c5, .int .i64 h.frm, .int .i64 h.to]) :
    Calls Tryz.prog 43 #[.slice A n c, .int .i64 K, .slice (some ⟨wr.heap.size, 0, none⟩) 1 1] (wr.alloc (.cells #[.int .i64 h.id, .slice A5 m c5, .int .i64 h.frm, .int .i64 h.to] 41)) fun e w' => ∃ v', e = .returned v' ∧ ON (EHp P) 4 41 W v' (l.take K ++ h :: l.drop K) w' := by
  have hba : Below wr.heap.size wr (wr.alloc (.cells #[.int .i64 h.id, .slice A5 m c5, .int .i64 h.frm, .int .i64 h.to] 41)) := (Below.refl _ _).alloc (Nat.le_refl _) _
  have hO1 := hO.next (ehp_steady P) hba
  obtain ⟨fl, f1, f2, f3⟩ := id hO1
  have hfl := f1.1
  have hWs : W.heap.size ≤ wr.heap.size := (ON.below hO).size
  rw [hln] at f1
  have f3' : ∀ j x, l[j]? = some x → EH (wr.alloc (.cells #[.int .i64 h.id, .slice A5 m c5, .int .i64 h.frm, .int .i64 h.to] 41)) (fun b => (b < (wr.alloc (.cells #[.int .i64 h.id, .slice A5 m c5, .int .i64 h.frm, .int .i64 h.to] 41)).heap.size ∧ (Value.slice A n c).ownBlock ≠ some b) ∧ P b) x ((fl.drop (j * 4)).take 4) := f3
  refine (insertH_all W.heap.size K wr.heap.size n A c fl _ _ _ _ _ hK hn (by simp; omega) f1 (flat_one hfl f3') (heap_alloc_new wr _) (four_one h A5 m c5) (fun g e => ?_)).mono ?_
  · subst e
    obtain ⟨_, h1, _⟩ := id hO
    have := (h1.lt g rfl).2
    omega
  · rintro e w7 ⟨v', rfl, h1, h2, h3⟩
    refine ⟨v', rfl, ins_onN f2 h1 h2 h3 (by simp [hln]; omega) (ins_cells (ok := fun b => (b < (wr.alloc (.cells #[.int .i64 h.id, .slice A5 m c5, .int .i64 h.frm, .int .i64 h.to] 41)).heap.size ∧ (Value.slice A n c).ownBlock ≠ some b) ∧ P b) hfl (by omega) f3' (eh_steady.keep hh (fun b hb => hba.block b hb.1.1) (fun b hb => ⟨⟨Nat.lt_of_lt_of_le hb.1.1 hba.size, hb.1.2⟩, hb.2⟩)))⟩
set_option maxRecDepth 100000 in
set_option maxHeartbeats 8000000 in
theorem heldSameN_any (A : Option Addr) (n c : Nat) (l : Tb) (w : World) (hr : RT w w.heap.size A n l) (hnil : A = none → c = 0) (hf : FewT l) :
    Calls Tryz.prog 40 #[.slice A n c] w fun e w' => ∃ v, e = .returned v ∧ ON (EHp (fun b => w.heap.size ≤ b)) 4 41 w v l w' := by
  have HL := Lib.hid hr.len
  have HF := Lib.hid hf
  have hn : n ≤ 100 := by rw [← hr.len]; exact hf.1
  have HC := Lib.hid (cloneH_any A n c l w hr hnil (by omega))
  clear hr hnil hf
  go_enter Tryz.func40, Tryz.ntmps40
  go_wp2_with fail
  refine HC.out.mono ?_
  rintro e w1 ⟨v, rfl, hon⟩
  obtain ⟨A1, c1, rfl, _, _⟩ := hon.form
  have HO := Lib.hid (ON.conv (E' := EHf w.heap.size) (ys := flagT l 0) hon flag_len fun j x y ok vs h1 h2 h3 => by
    rw [flag_at, h1] at h2
    have e : (x, false) = y := by simpa using h2
    subst e
    exact eh_steady.keep h3 (fun _ _ => rfl) (fun b hb => ⟨hb, fun h => by cases h⟩))
  rw [HL.out] at HO ⊢
  clear hon
  go_wp2
  go_loopw [10] (fun i wr => ∃ k : Nat, k ≤ n ∧ i = .int .i64 k ∧ ON (EHf w.heap.size) 4 41 w (.slice A1 n c1) (flagT l k) wr) (fun i _ => n - (intOf i).toNat)
  case atStart => exact ⟨0, Nat.zero_le _, rfl, HO.out⟩
  case round =>
    obtain ⟨k, hk, rfl, hrel⟩ := hrel
    have HK0 := Lib.hid hrel
    have HK := Lib.hid (show ON EH 4 41 w (.slice A1 n c1) l wr from ON.conv hrel flag_len.symm fun j x y ok vs h1 h2 h3 => by
      rw [flag_at, h2] at h1
      have e : (y, decide (j < k)) = x := by simpa using h1
      subst e
      exact eh_steady.keep h3 (fun _ _ => rfl) (fun _ hb => hb.1))
    have HB := Lib.hid hrel.below
    clear hrel
    by_cases hlt : k < n
    · have hkl : k < l.length := by rw [HL.out]; exact hlt
      obtain ⟨b, off, A2, m2, c2, e, hbl, c0, c1', c2', c3', hx⟩ := RT.one (HK.out.reads eh_steady (by omega) rfl) hlt
      obtain ⟨g, hg, hgb, hgl⟩ := HK.out.head (by omega)
      have hmx := HF.out.at hkl
      have hget : l[k]? = some (l.getD k hd0) := by rw [List.getD, List.getElem?_eq_getElem hkl]; rfl
      have hWS := HK.out.below.size
      rw [hg] at e
      injection e with e
      injection e with e1 e2
      subst e1 e2 hg
      obtain ⟨x, hxx⟩ : ∃ x, l.getD k hd0 = x := ⟨_, rfl⟩
      rw [hxx] at c0 c2' c3' hx hmx hget
      have HWS : Hid (w.heap.size ≤ (wr.alloc (hO x A2 m2 c2)).heap.size) := Lib.hid (by simp; omega)
      have hm2 : m2 ≤ 1000 := by have := hx.reads.1; omega
      have hba : Below wr.heap.size wr (wr.alloc (hO x A2 m2 c2)) := (Below.refl _ _).alloc (Nat.le_refl _) _
      have HX := Lib.hid (hx.next hba)
      have HKB := Lib.hid (HK.out.next eh_steady hba)
      have HK1 := Lib.hid (HK0.out.next (ehf_steady _) hba)
      have HGT := Lib.hid hget
      have HBX : Hid (BoxH (wr.alloc (hO x A2 m2 c2)) wr.heap.size x A2 m2 c2) := Lib.hid (boxH_new wr x A2 m2 c2)
      have HGL : Hid (g < (wr.alloc (hO x A2 m2 c2)).heap.size) := Lib.hid (by simp; omega)
      unfold hO at HX HKB HK1 HBX HGL HWS
      have q0 := HBX.out.c0
      have q1 := HBX.out.c1
      have q2 := HBX.out.c2
      have q3 := HBX.out.c3
      simp only [Nat.zero_add] at c0 c1' c2' c3'
      clear hba hx hxx hmx hget hbl hgb hgl hkl hWS
      go_wp2_with fail
      refine (own_any A2 m2 c2 x _ HX.out hm2).mono ?_
      rintro e w5 ⟨⟨A5, c5, rfl, hx5, he5⟩, hb5⟩
      have HK5 := Lib.hid (HK1.out.next (ehf_steady _) hb5)
      have HE5 : Hid (EHf w.heap.size w5 (fun b => b < w5.heap.size ∧ b ≠ g) (x, true) _) := Lib.hid (eh_steady.keep he5 (fun _ _ => rfl) (fun b hb => ⟨⟨hb.2, fun e => by have h1 := hb.1; have h2 := HGL.out; omega⟩, fun _ => by have h1 := hb.1; have h2 := HWS.out; omega⟩))
      have HKE := Lib.hid (HKB.out.next eh_steady hb5)
      clear hx5 he5 hb5 q0 q1 q2 q3
      have HK6 := Lib.hid (HK5.out.set4 (ehf_steady _) (i := k) (by rw [flag_len, HL.out]; exact hlt) HE5.out)
      rw [flag_set HGT.out] at HK6
      obtain ⟨⟨u0, q0⟩, z0⟩ := HKE.out.block (i := k * 4) (by omega)
      obtain ⟨⟨u1, q1⟩, z1⟩ := HKE.out.block (i := k * 4 + 1) (by omega)
      obtain ⟨⟨u2, q2⟩, z2⟩ := HKE.out.block (i := k * 4 + 2) (by omega)
      obtain ⟨⟨u3, q3⟩, z3⟩ := HKE.out.block (i := k * 4 + 3) (by omega)
      go_wp2
      go_roundw
      case rel => exact ⟨k + 1, by omega, by go_num, HK6.out⟩
      case measure => simp [intOf]; omega
    · have hkn : k = n := by omega
      have HE : Hid (ON (EHp (fun b => w.heap.size ≤ b)) 4 41 w (.slice A1 n c1) l wr) := Lib.hid (ON.conv HK0.out flag_len.symm fun j x y ok vs h1 h2 h3 => by
        have hj := (List.getElem?_eq_some_iff.1 h2).1
        rw [HL.out] at hj
        rw [flag_at, h2, decide_eq_true (by omega)] at h1
        have e : (y, true) = x := by simpa using h1
        subst e
        exact eh_steady.keep h3 (fun _ _ => rfl) (fun b hb => ⟨hb.1, hb.2 rfl⟩))
      clear hkn
      go_wp2
      go_ret
      exact ⟨_, rfl, HE.out⟩
set_option maxRecDepth 100000 in
set_option maxHeartbeats 8000000 in
theorem heldAddN_5 (A : Option Addr) (n c : Nat) (l : Tb) (A2 : Option Addr) (m c2 : Nat) (h : Hd) (w : World) (hl : TAsk w A n c l) (hf : FewT l) (hh : HAsk w A2 m c2 h) (hm : m ≤ 100) (h1 : rightT l = true) (h2 : mayH h = true) (h3 : hasT l h.id = false) (h4 : apartB h.things (busyT l h.frm h.to) = true) :
    Calls Tryz.prog 22 #[.slice A n c, .agg #[.int .i64 h.id, .slice A2 m c2, .int .i64 h.frm, .int .i64 h.to]] w (TPPost (fun b => w.heap.size ≤ b) (insT l h) w) := by
  obtain ⟨W, hW⟩ : ∃ W, W = w.alloc (hO h A2 m c2) := ⟨_, rfl⟩
  have BX : Hid (BoxH W w.heap.size h A2 m c2) := Lib.hid (by rw [hW]; exact boxH_new w h A2 m c2)
  have hb0 : Below w.heap.size w W := by rw [hW]; exact (Below.refl _ _).alloc (Nat.le_refl _) _
  have HB := Lib.hid hb0
  have HB0 := Lib.hid hb0
  have HT := Lib.hid (hl.next hb0)
  have HH := Lib.hid (hh.next hb0)
  have HF := Lib.hid hf
  have HLN := Lib.hid hl.reads.len
  have hn100 : n ≤ 100 := by rw [← hl.reads.len]; exact hf.1
  have R1 := Lib.hid h1
  have M1 := Lib.hid h2
  have HHAS := Lib.hid h3
  have HIDS := Lib.hid (rightT_is.1 h1).ids
  have HBN : Hid ((busyT l h.frm h.to).length ≤ maxLen) := Lib.hid (by have := busyT_len l h.frm h.to; unfold maxLen; omega)
  have HAP : Hid (apartB h.things (busyT l h.frm h.to) = true) := Lib.hid h4
  have d256 : (n == 256) = false := beq_eq_false_iff_ne.2 (by omega)
  have d256' : ((n : Int) == 256) = false := beq_eq_false_iff_ne.2 (by omega)
  have HMM := Lib.hid hm
  clear h1 h2 h3 h4
  unfold hO at hW
  clear hb0 hl hh hf
  have q0 := BX.out.c0
  have q1 := BX.out.c1
  have q2 := BX.out.c2
  have q3 := BX.out.c3
  go_enter Tryz.func22, Tryz.ntmps22
  go_wp2_with fail
  rw [← hW]
  refine (heldSameN_any A n c l W HT.out.reads HT.out.nil HF.out).mono ?_
  rintro e w1 ⟨v, rfl, hon⟩
  have hb := hon.below
  obtain ⟨A1, c1, rfl, hz1, hz2⟩ := hon.form
  rw [HLN.out] at hon ⊢
  clear hz1 hz2
  replace HB := Lib.hid (HB.out.trans (hb.mono HB.out.size))
  replace HT := Lib.hid (HT.out.next hb)
  replace HH := Lib.hid (HH.out.next hb)
  replace BX := Lib.hid (BX.out.next hb)
  clear hb
  have HO := Lib.hid (show ON (EHp (fun b => W.heap.size ≤ b)) 4 41 W _ l w1 from hon)
  clear hon
  clear hW
  clear q0 q1 q2 q3
  have q0 := BX.out.c0
  have q1 := BX.out.c1
  have q2 := BX.out.c2
  have q3 := BX.out.c3
  go_wp2_with fail
  refine (heldRight_b HT.out.reads HT.out.nil HF.out R1.out).mono ?_
  rintro e w2 ⟨rfl, hb⟩
  replace HB := Lib.hid (HB.out.trans (hb.mono HB.out.size))
  replace HT := Lib.hid (HT.out.next hb)
  replace HH := Lib.hid (HH.out.next hb)
  replace BX := Lib.hid (BX.out.next hb)
  replace HO := Lib.hid (HO.out.next (ehp_steady _) hb)
  clear hb
  clear q0 q1 q2 q3
  have q0 := BX.out.c0
  have q1 := BX.out.c1
  have q2 := BX.out.c2
  have q3 := BX.out.c3
  go_wp2_with fail
  refine (may_any HH.out M1.out).mono ?_
  rintro e w3 ⟨rfl, hb⟩
  replace HB := Lib.hid (HB.out.trans (hb.mono HB.out.size))
  replace HT := Lib.hid (HT.out.next hb)
  replace HH := Lib.hid (HH.out.next hb)
  replace BX := Lib.hid (BX.out.next hb)
  replace HO := Lib.hid (HO.out.next (ehp_steady _) hb)
  clear hb
  clear q0 q1 q2 q3
  have q0 := BX.out.c0
  have q1 := BX.out.c1
  have q2 := BX.out.c2
  have q3 := BX.out.c3
  go_wp2_with fail
  refine (hfind_any A n c l h.id _ HT.out.reads (by omega) HIDS.out).mono ?_
  rintro e w4 ⟨⟨K, rfl, hK⟩, hb⟩
  have HK := Lib.hid hK
  have HKN : Hid (K ≤ n) := Lib.hid (by rw [← HLN.out]; exact hK.le)
  rw [here_has HIDS.out hK, HHAS.out]
  clear hK
  replace HB := Lib.hid (HB.out.trans (hb.mono HB.out.size))
  replace HT := Lib.hid (HT.out.next hb)
  replace HH := Lib.hid (HH.out.next hb)
  replace BX := Lib.hid (BX.out.next hb)
  replace HO := Lib.hid (HO.out.next (ehp_steady _) hb)
  clear hb
  clear q0 q1 q2 q3
  have q0 := BX.out.c0
  have q1 := BX.out.c1
  have q2 := BX.out.c2
  have q3 := BX.out.c3
  go_wp2
  have HKEEP : Hid (∀ wx, Below w4.drew.heap.size w4.drew wx → wx.cell? ⟨w.heap.size, 1, none⟩ = some (.slice A2 m c2) ∧ wx.cell? ⟨w.heap.size, 2, none⟩ = some (.int .i64 h.frm) ∧ wx.cell? ⟨w.heap.size, 3, none⟩ = some (.int .i64 h.to)) := Lib.hid (fun wx hz' => by
    have hz := (bel_drewH w4).trans (hz'.mono (bel_drewH w4).size)
    exact ⟨keep_cellH BX.out.lt BX.out.c1 hz, keep_cellH BX.out.lt BX.out.c2 hz, keep_cellH BX.out.lt BX.out.c3 hz⟩)
  have hd := bel_drewH w4
  replace HB := Lib.hid (HB.out.trans (hd.mono HB.out.size))
  replace HT := Lib.hid (HT.out.next hd)
  replace HH := Lib.hid (HH.out.next hd)
  replace BX := Lib.hid (BX.out.next hd)
  replace HO := Lib.hid (HO.out.next (ehp_steady _) hd)
  clear hd
  have HY := Lib.hid (Below.refl w4.drew.heap.size w4.drew)
  go_region_held3 (fun w' => w'.cell? ⟨w.heap.size, 1, none⟩ = some (.slice A2 m c2) ∧ w'.cell? ⟨w.heap.size, 2, none⟩ = some (.int .i64 h.frm) ∧ w'.cell? ⟨w.heap.size, 3, none⟩ = some (.int .i64 h.to))
    (first | exact HKEEP.out _ (Below.refl _ _) | exact HKEEP.out _ HY.out | go_keep | fail)
    (first | (go_at_call 39; (with_reducible refine (busy_any A n c l h.frm h.to w4.drew HT.out.reads HF.out R1.out).mono ?_); rintro e w5 ⟨⟨Ab, cb, rfl, hrb, _, _⟩, hb⟩; have HY := Lib.hid (HY.out.trans (hb.mono HY.out.size)); have HB := Lib.hid (HB.out.trans (hb.mono HB.out.size)); have HT := Lib.hid (HT.out.next hb); have HH := Lib.hid (HH.out.next hb); have BX := Lib.hid (BX.out.next hb); have HO := Lib.hid (HO.out.next (ehp_steady _) hb); have HBS := Lib.hid hrb; clear hb) | (go_at_call 20; (with_reducible refine (s_apart HH.out.reads HBS.out HH.out.few HBN.out HAP.out).mono ?_); rintro e w6 ⟨rfl, hb⟩; have HY := Lib.hid (HY.out.trans (hb.mono HY.out.size)); have HB := Lib.hid (HB.out.trans (hb.mono HB.out.size)); have HT := Lib.hid (HT.out.next hb); have HH := Lib.hid (HH.out.next hb); have BX := Lib.hid (BX.out.next hb); have HO := Lib.hid (HO.out.next (ehp_steady _) hb); have HBS := Lib.hid (HBS.out.next hb); clear hb) | fail)
  clear HKEEP HY
  clear q0 q1 q2 q3
  have q0 := BX.out.c0
  have q1 := BX.out.c1
  have q2 := BX.out.c2
  have q3 := BX.out.c3
  go_wp2_with fail
  refine (own_any A2 m c2 h _ HH.out (by omega)).mono ?_
  rintro e w7 ⟨⟨A5, c5, rfl, hx5, he5⟩, hb⟩
  have hlt5 : ∀ b, (Value.slice A1 n c1).ownBlock = some b → b < _ := fun b hb => (let ⟨_, h1, _⟩ := HO.out; h1.lt b hb).2
  have hge5 := HO.out.below.size
  have HE5 : Hid (EHp (fun b => W.heap.size ≤ b) w7 (fun b => b < w7.heap.size ∧ (Value.slice A1 n c1).ownBlock ≠ some b) h _) := Lib.hid (eh_steady.keep he5 (fun _ _ => rfl) (fun b hb => ⟨⟨hb.2, fun e => by have h1 := hlt5 b e; have h2 := hb.1; omega⟩, by have h2 := hb.1; omega⟩))
  clear hge5
  clear hlt5 hx5 he5
  replace HB := Lib.hid (HB.out.trans (hb.mono HB.out.size))
  replace HT := Lib.hid (HT.out.next hb)
  replace HH := Lib.hid (HH.out.next hb)
  replace BX := Lib.hid (BX.out.next hb)
  replace HO := Lib.hid (HO.out.next (ehp_steady _) hb)
  replace HBS := Lib.hid (HBS.out.next hb)
  clear hb
  clear q0 q1 q2 q3
  have HINS : Hid (l.take K ++ h :: l.drop K = insT l h) := Lib.hid (ins_at HK.out (hasT_no.1 HHAS.out)).symm
  go_wp2_with fail
  refine (insertH_onN HO.out (by omega) HLN.out HKN.out HE5.out).mono ?_
  rintro e w8 ⟨v', rfl, hon⟩
  rw [HINS.out] at hon
  have HON := Lib.hid hon
  have HB0S := Lib.hid HB0.out.size
  have HBF := Lib.hid (HB0.out.trans ((ON.below hon).mono HB0.out.size))
  clear hon
  go_wp2
  go_ret2
  exact ⟨_, rfl, on_base HON.out HB0S.out HBF.out⟩
theorem heldAddN_any (A : Option Addr) (n c : Nat) (l : Tb) (A2 : Option Addr) (m c2 : Nat) (h : Hd) (w : World) (hl : TAsk w A n c l) (hf : FewT l) (hh : HAsk w A2 m c2 h) (hm : m ≤ 100) (h0 : addE l h = 0) : Calls Tryz.prog 22 #[.slice A n c, .agg #[.int .i64 h.id, .slice A2 m c2, .int .i64 h.frm, .int .i64 h.to]] w (TPPost (fun b => w.heap.size ≤ b) (addT l h) w) := by
  have hm0 := add_ok.1 h0
  have e : addT l h = insT l h := if_pos h0
  rw [e]
  exact heldAddN_5 A n c l A2 m c2 h w hl hf hh hm (rightT_is.2 hm0.right) (decide_eq_true hm0.may) (hasT_no.2 hm0.new) (by
    rw [apart_comm]
    exact (busy_apart (rightT_is.2 hm0.right) hm0.may).1 hm0.free)

end Go.Proofs.YtchogijdkagiiaaGreatDoor

namespace Go.Proofs.YtchogijdkagiiaaGreatDoor
open Go.RowKit

theorem heldOk_is : HeldOk where
  right A n c l w hl hf := heldRight_any A n c l w hl.reads hl.nil hf
  busy A n c l a b w hl hf := heldBusy_any A n c l a b w hl hf
  ends A n c l z w hl hf := heldEnds_any A n c l z w hl hf
  get A n c l id w hl hf := heldGet_any A n c l id w hl hf
  add A n c l A2 m c2 h w hl hf hh hm := heldAdd_any A n c l A2 m c2 h w hl hf hh hm
  addN A n c l A2 m c2 h w hl hf hh hm h0 := heldAddN_any A n c l A2 m c2 h w hl hf hh hm h0

end Go.Proofs.YtchogijdkagiiaaGreatDoor

namespace Go.Proofs.YtchogijdkagiiaaGreatDoor

/-- the node that thing x is, or is part of -/
def homeG (g : Gr) (x : Int) : Int × Bool :=
  if x < g.length then (if gk g x.toNat = 2 then (x, true) else if gk g x.toNat = 3 ∨ gk g x.toNat = 4 then (gu g x.toNat, true) else (0, false)) else (0, false)
section
variable {g : Gr} {F : List Int} {s : Sp} {k x m : Nat}
theorem under_kind (hg : RightG g) (hx : x < g.length) (hk : gk g k = 2) (ho : overG g k x = true) : gk g x = 2 ∨ gk g x = 3 ∨ gk g x = 4 := by
  have h1 := hg.kinds hx
  by_cases h : gk g x < 2
  · have := over_high hg x hx h ho
    omega
  · omega
/-- a thing's home -/
theorem home_is (hg : RightG g) (hx : x < g.length) : (∃ k, k < g.length ∧ homeG g (x : Int) = ((k : Int), true) ∧ gk g k = 2 ∧ overG g k x = true ∧ (gk g x = 2 ∨ gk g x = 3 ∨ gk g x = 4)) ∨ (homeG g (x : Int) = (0, false) ∧ (gk g x = 0 ∨ gk g x = 1)) := by
  have h1 := hg.kinds hx
  unfold homeG
  rw [if_pos (by omega), Int.toNat_natCast]
  by_cases h2 : gk g x = 2
  · exact .inl ⟨x, hx, by rw [if_pos h2], h2, over_self, .inl h2⟩
  · rw [if_neg h2]
    by_cases h3 : gk g x = 3 ∨ gk g x = 4
    · rw [if_pos h3]
      have hx0 : 0 < x := by
        rcases Nat.eq_zero_or_pos x with e | e
        · subst e; have := hg.top.1; omega
        · exact e
      have hu := hg.up x hx0 hx
      have hp : gk g (par g x) = 2 := by rcases hg.kind x hx0 hx with e | e | e <;> omega
      refine .inl ⟨par g x, by omega, by unfold par; rw [Int.toNat_of_nonneg hu.1], hp, ?_, .inr h3⟩
      rw [over_up hg hx hu.2]
      exact over_self
    · rw [if_neg h3]
      exact .inr ⟨rfl, by omega⟩
theorem home_far (hx : g.length ≤ x) : homeG g (x : Int) = (0, false) := by unfold homeG; rw [if_neg (by omega)]
theorem far_kind (hx : g.length ≤ x) : gk g x = 0 := by
  unfold gk
  rw [List.getD, List.getElem?_eq_none hx]; rfl

/-! What is counted -/
/-- how many of the first m numbers of the set there are at node k, of kind c -/
def tabT (g : Gr) (F : List Int) (m k c : Nat) : Int := if gk g k = 2 ∧ 2 ≤ c then (frN g F (c : Int) k m : Int) else 0
/-- one entry is turned -/
def upT (T : Nat → Nat → Int) (k c : Nat) (v : Int) : Nat → Nat → Int := fun k' c' => if k' = k ∧ c' = c then v else T k' c'
theorem frN_succ (g : Gr) (F : List Int) (c : Int) (k m : Nat) : frN g F c k (m + 1) = frN g F c k m + (if frP g F c k m = true then 1 else 0) := cntP_succ _ _
theorem frN_le (c : Int) : frN g F c k m ≤ m := cntP_le _ _
theorem tab_le {c : Nat} : tabT g F m k c ≤ m ∧ 0 ≤ tabT g F m k c := by
  unfold tabT
  split
  · have := frN_le (g := g) (F := F) (k := k) (m := m) (c : Int); omega
  · omega
theorem tab_zero {c : Nat} : tabT g F 0 k c = 0 := by
  unfold tabT
  split
  · rfl
  · rfl
theorem frP_no {c : Int} (h : hasB F (x : Int) = false ∨ overG g k x = false ∨ ¬ gk g x = c) : frP g F c k x = false := by
  unfold frP
  rcases h with h | h | h
  · rw [h]; simp
  · rw [h]; simp
  · rw [show (gk g x == c) = false from beq_eq_false_iff_ne.2 h]; simp
/-- what isn't in the set, or has no home, is not counted -/
theorem tab_skip {c : Nat} (h : hasB F (m : Int) = false ∨ gk g m = 0 ∨ gk g m = 1) : tabT g F (m + 1) k c = tabT g F m k c := by
  unfold tabT
  split
  · rename_i h2
    rw [frN_succ, frP_no (by rcases h with h | h | h; exact .inl h; all_goals exact .inr (.inr (by omega)))]
    rfl
  · rfl
/-- what is in the set is counted at its home -/
theorem tab_step (hg : RightG g) (hm : m < g.length) {j d : Nat} (hj : gk g j = 2) (ho : overG g j m = true) (hd : gk g m = (d : Int)) (hF : hasB F (m : Int) = true) (c : Nat) (_ : k < g.length) :
    tabT g F (m + 1) k c = upT (tabT g F m) j d (tabT g F m j d + 1) k c := by
  have hdk := under_kind hg hm hj ho
  unfold upT
  by_cases h : k = j ∧ c = d
  · obtain ⟨rfl, rfl⟩ := h
    rw [if_pos ⟨rfl, rfl⟩]
    unfold tabT
    rw [if_pos ⟨hj, by omega⟩, if_pos ⟨hj, by omega⟩, frN_succ, if_pos (by unfold frP; rw [ho, hF, hd]; simp)]
    omega
  · rw [if_neg h]
    unfold tabT
    split
    · rename_i h2
      rw [frN_succ, frP_no]
      · rfl
      · by_cases hc : c = d
        · have hkj : k ≠ j := fun e => h ⟨e, hc⟩
          refine .inr (.inl ?_)
          cases ho2 : overG g k m with
          | false => rfl
          | true => exact absurd (under_one hg hm h2.1 hj ho2 ho) hkj
        · exact .inr (.inr (by rw [hd]; omega))
    · rfl
theorem fr_far {c : Nat} (hc : 2 ≤ c) (hm : g.length ≤ m) : frN g F (c : Int) k m = frN g F (c : Int) k g.length :=
  cntP_gap hm fun y h1 _ => frP_no (.inr (.inr (by rw [far_kind h1]; omega)))
theorem tab_gap {c m' : Nat} (h : m ≤ m') (hg : ∀ y, m ≤ y → y < m' → hasB F (y : Int) = false) : tabT g F m' k c = tabT g F m k c := by
  unfold tabT
  split
  · unfold frN
    rw [cntP_gap h fun y h1 h2 => frP_no (.inl (hg y h1 h2))]
  · rfl

/-! Who suits, by what is counted -/
theorem fr_self (hg : RightG g) (hk : k < g.length) (h2 : gk g k = 2) : frN g F 2 k g.length = if hasB F (k : Int) = true then 1 else 0 := by
  have hoth : ∀ y, y < g.length → y ≠ k → frP g F 2 k y = false := by
    intro y hy hne
    by_cases hky : gk g y = 2
    · refine frP_no (.inr (.inl ?_))
      cases ho : overG g k y with
      | false => rfl
      | true => exact absurd (node_node hg hy h2 hky ho).symm hne
    · exact frP_no (.inr (.inr hky))
  split
  · rename_i h
    exact cntP_one hk (by unfold frP; rw [over_self, h, h2]; rfl) hoth
  · rename_i h
    refine cntP_zero fun y hy => ?_
    by_cases hyk : y = k
    · subst hyk
      exact frP_no (.inl (by cases hb : hasB F (y : Int) with | false => rfl | true => exact absurd hb h))
    · exact hoth y hy hyk
theorem cntP_same {p q : Nat → Bool} : ∀ {n : Nat}, (∀ k, k < n → p k = true → q k = true) → cntP p n = cntP q n → ∀ k, k < n → p k = q k
  | 0, _, _, k, hk => absurd hk (by omega)
  | n + 1, h, he, k, hk => by
    have hm := cntP_mono (m := n) (fun j hj => h j (by omega))
    have hn := h n (by omega)
    rw [cntP_succ, cntP_succ] at he
    have hpq : p n = q n ∧ cntP p n = cntP q n := by
      cases hp : p n with
      | true =>
        rw [hp, hn hp, if_pos rfl] at he
        exact ⟨(hn hp).symm, by omega⟩
      | false =>
        cases hq : q n with
        | false => rw [hp, hq] at he; exact ⟨rfl, by simpa using he⟩
        | true => rw [hp, hq] at he; simp at he; omega
    by_cases hkn : k = n
    · subst hkn; exact hpq.1
    · exact cntP_same (n := n) (fun j hj => h j (by omega)) hpq.2 k (by omega)
theorem all_is (h : rightG g = true) : underL g 0 = allN g.length := by
  have hg := rightG_is h
  rw [show (0 : Int) = ((0 : Nat) : Int) from rfl, underL_is h hg.pos]
  exact numsF_ext fun k hk => over_zero hg k hk
/-- at a node all is free that is free anywhere -/
def sameT (g : Gr) (F : List Int) (k : Nat) : Bool := decide (tabT g F 256 k 0 = tabT g (underL g 0) 256 k 0 ∧ tabT g F 256 k 1 = tabT g (underL g 0) 256 k 1 ∧ tabT g F 256 k 2 = tabT g (underL g 0) 256 k 2 ∧ tabT g F 256 k 3 = tabT g (underL g 0) 256 k 3 ∧ tabT g F 256 k 4 = tabT g (underL g 0) 256 k 4)
def tagT (g : Gr) (s : Sp) (k : Nat) : Bool := decide (s.tag.size = 0 ∨ gt g k = s.tag)
def enoughT (g : Gr) (F : List Int) (s : Sp) (k : Nat) : Bool := decide (tabT g F 256 k 2 = 1 ∧ s.cores ≤ tabT g F 256 k 3 ∧ s.gpus ≤ tabT g F 256 k 4)
theorem suit_by (h : rightG g = true) (hk : k < g.length) (h2 : gk g k = 2) : suitP g F s k = (tagT g s k && (enoughT g F s k && (!s.whole || sameT g F k))) := by
  have hg := rightG_is h
  have hT : ∀ (F : List Int) (c : Nat), 2 ≤ c → tabT g F 256 k c = frN g F (c : Int) k g.length := fun F c hc => by
    unfold tabT
    rw [if_pos ⟨h2, hc⟩, fr_far hc hg.few]
  have hlow : ∀ (F : List Int) (c : Nat), c < 2 → tabT g F 256 k c = 0 := fun F c hc => by unfold tabT; rw [if_neg (by omega)]
  have e1 : tagT g s k = decide (s.tag.size = 0 ∨ s.tag = gt g k) := decide_eq_decide.2 ⟨fun h => h.imp id Eq.symm, fun h => h.imp id Eq.symm⟩
  have e2 : enoughT g F s k = (hasB F (k : Int) && decide (s.cores ≤ frN g F 3 k g.length ∧ s.gpus ≤ frN g F 4 k g.length)) := by
    unfold enoughT
    rw [hT F 2 (by omega), hT F 3 (by omega), hT F 4 (by omega)]
    rw [show ((2 : Nat) : Int) = 2 from rfl, fr_self hg hk h2]
    by_cases hb : hasB F (k : Int) = true
    · rw [if_pos hb, hb]; simp
    · rw [if_neg hb, Bool.eq_false_iff.2 hb]; simp
  have e3 : sameT g F k = decide (∀ x, x < g.length → overG g k x = true → hasB F (x : Int) = true) := by
    unfold sameT
    have hall : ∀ x, x < g.length → hasB (underL g 0) (x : Int) = true := fun x hx => by rw [all_is h]; exact has_all hg.few hx
    rw [hlow, hlow, hlow, hlow, hT F 2 (by omega), hT F 3 (by omega), hT F 4 (by omega), hT _ 2 (by omega), hT _ 3 (by omega), hT _ 4 (by omega)]
    any_goals omega
    refine decide_eq_decide.2 ⟨?_, fun hx => ?_⟩
    · rintro ⟨_, _, a2, a3, a4⟩ x hx ho
      have key : ∀ c : Nat, (frN g F (c : Int) k g.length : Int) = frN g (underL g 0) (c : Int) k g.length → gk g x = (c : Int) → hasB F (x : Int) = true := by
        intro c he hc
        have hs := cntP_same (p := frP g F (c : Int) k) (q := frP g (underL g 0) (c : Int) k) (n := g.length) (fun y hy hp => by
          unfold frP at hp ⊢
          rw [Bool.and_eq_true, Bool.and_eq_true] at hp
          rw [hp.1, hall y hy, hp.2.2]; rfl) (by unfold frN at he; omega) x hx
        unfold frP at hs
        rw [ho, hall x hx, hc] at hs
        simpa using hs
      rcases under_kind hg hx h2 ho with e | e | e
      · exact key 2 a2 e
      · exact key 3 a3 e
      · exact key 4 a4 e
    · have key : ∀ c : Nat, frN g F (c : Int) k g.length = frN g (underL g 0) (c : Int) k g.length := fun c => cntP_congr fun y hy => by
        unfold frP
        cases ho : overG g k y with
        | false => rfl
        | true => rw [hx y hy ho, hall y hy]
      exact ⟨rfl, rfl, by rw [key 2], by rw [key 3], by rw [key 4]⟩
  rw [e1, e2, e3]
  unfold suitP
  rw [h2]
  cases hasB F (k : Int) <;> cases (decide (s.tag.size = 0 ∨ s.tag = gt g k)) <;> simp

/-! The list of those that suit -/
theorem numsF_filter (p q : Nat → Bool) : ∀ n, (numsF p n).filter (fun x => q x.toNat) = numsF (fun k => p k && q k) n
  | 0 => rfl
  | n + 1 => by
    rw [numsF_succ, List.filter_append, numsF_filter p q n, numsF_succ]
    congr 1
    cases hp : p n with
    | false => simp
    | true => cases hq : q n <;> simp [hq]
/-- the nodes that suit -/
def suitL (g : Gr) (F : List Int) (s : Sp) : List Int := if mayB g F s = true then numsF (suitP g F s) g.length else []
theorem suitL_of (h : mayB g F s = true) : suitL g F s = numsF (suitP g F s) g.length := by unfold suitL; rw [if_pos h]
theorem suitL_no (h : mayB g F s = false) : suitL g F s = [] := by unfold suitL; rw [if_neg (by rw [h]; simp)]
theorem nodes_suit (h : mayB g F s = true) : (nodesL g).filter (fun x => suitP g F s x.toNat) = suitL g F s := by
  rw [suitL_of h]
  unfold nodesL
  rw [if_pos (mayB_is h).1, numsF_filter]
  refine numsF_ext fun k _ => ?_
  cases hs : suitP g F s k with
  | false => simp
  | true => rw [suit_node hs]; rfl
theorem suitL_len (h : mayB g F s = true) : (suitL g F s).length = cntS g F s g.length := by rw [suitL_of h, numsF_cnt]; rfl
theorem suitL_few : (suitL g F s).length ≤ 256 := by
  unfold suitL
  split
  · rename_i h
    exact Nat.le_trans (numsF_len _ _) (rightG_is (mayB_is h).1).few
  · exact Nat.zero_le _
/-- the first c of them -/
theorem numsF_take (p : Nat → Bool) (c : Nat) : ∀ n, (numsF p n).take c = numsF (fun k => p k && decide (cntP p k < c)) n
  | 0 => by simp [numsF]
  | n + 1 => by
    rw [numsF_succ, numsF_succ, ← numsF_take p c n, List.take_append]
    congr 1
    rw [numsF_cnt]
    cases hp : p n with
    | false => simp
    | true =>
      by_cases h : cntP p n < c
      · rw [show c - cntP p n = (c - cntP p n - 1) + 1 by omega]; simp [h]
      · rw [show c - cntP p n = 0 by omega]; simp [h]
theorem sel_take (h : mayB g F s = true) (h0 : 0 ≤ s.nodes) : (suitL g F s).take s.nodes.toNat = numsF (selP g F s) g.length := by
  rw [suitL_of h, numsF_take]
  refine numsF_ext fun k _ => ?_
  unfold selP cntS
  congr 1
  exact decide_eq_decide.2 (by omega)

/-! What is left to be taken -/
def mostS (s : Sp) (c : Nat) : Int := if s.whole = true then (if c = 2 then 1 else if c = 3 ∨ c = 4 then 256 else 0) else (if c = 3 then s.cores else if c = 4 then s.gpus else 0)
/-- as the first m numbers are looked at: the nodes' part -/
def firstT (g : Gr) (F : List Int) (s : Sp) (m k c : Nat) : Int := if k < m ∧ selP g F s k = true then mostS s c else 0
def leftT (g : Gr) (F : List Int) (s : Sp) (m k c : Nat) : Int := if selP g F s k = true then max 0 (mostS s c - (if 2 ≤ c then (frN g F (c : Int) k m : Int) else 0)) else 0
theorem most_range (hs : rightS s = true) (c : Nat) : 0 ≤ mostS s c ∧ mostS s c ≤ 256 := by
  obtain ⟨_, _, q2, q3, _⟩ := rightS_is hs
  unfold mostS
  split
  · split
    · omega
    · split <;> omega
  · split
    · omega
    · split <;> omega
theorem left_range (hs : rightS s = true) (c : Nat) : 0 ≤ leftT g F s m k c ∧ leftT g F s m k c ≤ 256 := by
  have := most_range hs c
  unfold leftT
  split
  · omega
  · omega
theorem left_start (hs : rightS s = true) (c : Nat) (hk : k < g.length) : firstT g F s g.length k c = leftT g F s 0 k c := by
  have := most_range hs c
  unfold firstT leftT
  by_cases h : selP g F s k = true
  · rw [if_pos ⟨hk, h⟩, if_pos h]
    have e : frN g F (c : Int) k 0 = 0 := rfl
    rw [e]
    split <;> omega
  · rw [if_neg (fun e => h e.2), if_neg h]
theorem first_zero (c : Nat) : firstT g F s 0 k c = 0 := by unfold firstT; rw [if_neg (by omega)]
theorem first_step (c : Nat) {x : Nat} (hx : selP g F s x = true) {m : Nat} (hm : m ≤ x) (hgap : ∀ y, m ≤ y → y < x → selP g F s y = false) : firstT g F s (x + 1) k c = if k = x then mostS s c else firstT g F s m k c := by
  unfold firstT
  by_cases h : k = x
  · subst h
    rw [if_pos rfl, if_pos ⟨by omega, hx⟩]
  · rw [if_neg h]
    by_cases h2 : k < m
    · by_cases h3 : selP g F s k = true
      · rw [if_pos ⟨by omega, h3⟩, if_pos ⟨h2, h3⟩]
      · rw [if_neg (fun e => h3 e.2), if_neg (fun e => h3 e.2)]
    · rw [if_neg (c := k < m ∧ _) (fun e => h2 e.1)]
      by_cases h3 : k < x + 1
      · exact if_neg (fun e => by have := hgap k (by omega) (by omega); rw [this] at e; cases e.2)
      · exact if_neg (fun e => h3 e.1)
theorem first_end (c : Nat) {m : Nat} (_ : m ≤ g.length) (hgap : ∀ y, m ≤ y → y < g.length → selP g F s y = false) (hk : k < g.length) : firstT g F s m k c = firstT g F s g.length k c := by
  unfold firstT
  by_cases h2 : k < m
  · by_cases h3 : selP g F s k = true
    · rw [if_pos ⟨h2, h3⟩, if_pos ⟨by omega, h3⟩]
    · rw [if_neg (fun e => h3 e.2), if_neg (fun e => h3 e.2)]
  · rw [if_neg (fun e => h2 e.1), if_neg (fun e => by have := hgap k (by omega) hk; rw [this] at e; cases e.2)]
theorem left_gap {c m' : Nat} (h : m ≤ m') (hg : ∀ y, m ≤ y → y < m' → hasB F (y : Int) = false) : leftT g F s m' k c = leftT g F s m k c := by
  unfold leftT frN
  split
  · split
    · rw [cntP_gap h fun y h1 h2 => frP_no (.inl (hg y h1 h2))]
    · rfl
  · rfl
theorem left_skip {c : Nat} (h : gk g m = 0 ∨ gk g m = 1) : leftT g F s (m + 1) k c = leftT g F s m k c := by
  unfold leftT
  split
  · split
    · rw [frN_succ, frP_no (.inr (.inr (by omega)))]; rfl
    · rfl
  · rfl
/-- is a thing got: by what is left at its home -/
theorem left_find (hg' : rightG g = true) (_ : rightS s = true) (hx : x < g.length) {j d : Nat} (hj : gk g j = 2) (ho : overG g j x = true) (hd : gk g x = (d : Int)) (hF : hasB F (x : Int) = true) :
    findP g F s x = decide (0 < leftT g F s x j d) := by
  have hg := rightG_is hg'
  have hdk := under_kind hg hx hj ho
  rw [find_under hg hj hx ho]
  unfold leftT
  cases hsel : selP g F s j with
  | false => rw [if_neg (by simp)]; simp
  | true =>
    rw [if_pos rfl, Bool.true_and, if_pos (by omega)]
    have hn := frN_le (g := g) (F := F) (k := j) (m := x) (d : Int)
    have hfew := hg.few
    unfold getP
    rw [ho, hF, Bool.true_and, Bool.true_and]
    cases hw : s.whole with
    | true =>
      have hm : (frN g F (d : Int) j x : Int) < mostS s d := by
        unfold mostS
        rw [if_pos hw]
        rcases hdk with e | e | e
        · rw [if_pos (by omega)]
          have hxj : x = j := (node_node hg hx hj e ho).symm
          have h0 : frN g F (d : Int) j x = 0 := by
            refine cntP_zero fun y hy => ?_
            by_cases hoy : overG g j y = true
            · have := over_le hoy; omega
            · exact frP_no (.inr (.inl (by cases hb : overG g j y with | false => rfl | true => exact absurd hb hoy)))
          rw [h0]; omega
        · rw [if_neg (by omega), if_pos (by omega)]; omega
        · rw [if_neg (by omega), if_pos (by omega)]; omega
      rw [Bool.true_or]
      exact (decide_eq_true (by omega)).symm
    | false =>
      rw [Bool.false_or]
      have hp : frP g F (d : Int) j x = true := by unfold frP; rw [ho, hF, hd]; simp
      have hn1 := frN_succ g F (d : Int) j x
      rw [if_pos hp] at hn1
      unfold mostS
      rw [if_neg (by rw [hw]; simp)]
      rcases hdk with e | e | e
      · obtain rfl : d = 2 := by omega
        rw [e, if_neg (by omega), if_neg (by omega)]
        rw [show ((2 : Int) == 3) = false from rfl, show ((2 : Int) == 4) = false from rfl]
        simp; omega
      · obtain rfl : d = 3 := by omega
        rw [e, if_pos rfl]
        rw [show ((3 : Int) == 3) = true from rfl, show ((3 : Int) == 4) = false from rfl, Bool.true_and, Bool.false_and, Bool.or_false]
        exact decide_eq_decide.2 (by rw [show ((3 : Nat) : Int) = 3 from rfl] at hn1 ⊢; omega)
      · obtain rfl : d = 4 := by omega
        rw [e, if_neg (by omega), if_pos rfl]
        rw [show ((4 : Int) == 3) = false from rfl, show ((4 : Int) == 4) = true from rfl, Bool.false_and, Bool.true_and, Bool.false_or]
        exact decide_eq_decide.2 (by rw [show ((4 : Nat) : Int) = 4 from rfl] at hn1 ⊢; omega)
theorem left_else (hg : RightG g) (hx : x < g.length) {j d k c : Nat} (hj : gk g j = 2) (ho : overG g j x = true) (hd : gk g x = (d : Int)) (h : ¬ (k = j ∧ c = d)) : leftT g F s (x + 1) k c = leftT g F s x k c := by
  unfold leftT
  cases hsel : selP g F s k with
  | false => rfl
  | true =>
    rw [if_pos rfl, if_pos rfl]
    split
    · rw [frN_succ, frP_no]
      · rfl
      · by_cases hc : c = d
        · have hkj : k ≠ j := fun e => h ⟨e, hc⟩
          refine .inr (.inl ?_)
          cases ho2 : overG g k x with
          | false => rfl
          | true => exact absurd (under_one hg hx (suit_node (sel_suit hsel)) hj ho2 ho) hkj
        · exact .inr (.inr (by rw [hd]; omega))
    · rfl
/-- it is taken -/
theorem left_take (hg' : rightG g = true) (hx : x < g.length) {j d : Nat} (hj : gk g j = 2) (ho : overG g j x = true) (hd : gk g x = (d : Int)) (hF : hasB F (x : Int) = true) (hl : 0 < leftT g F s x j d) (c : Nat) :
    leftT g F s (x + 1) k c = upT (leftT g F s x) j d (leftT g F s x j d - 1) k c := by
  have hg := rightG_is hg'
  have hdk := under_kind hg hx hj ho
  have hp : frP g F (d : Int) j x = true := by unfold frP; rw [ho, hF, hd]; simp
  have hn1 := frN_succ g F (d : Int) j x
  rw [if_pos hp] at hn1
  unfold upT
  by_cases h : k = j ∧ c = d
  · obtain ⟨rfl, rfl⟩ := h
    rw [if_pos ⟨rfl, rfl⟩]
    unfold leftT at hl ⊢
    cases hsel : selP g F s k with
    | false => rw [hsel, if_neg (by simp)] at hl; omega
    | true =>
      rw [hsel, if_pos rfl, if_pos (by omega)] at hl
      rw [if_pos rfl, if_pos rfl, if_pos (by omega), if_pos (by omega), hn1]
      omega
  · rw [if_neg h]
    exact left_else hg hx hj ho hd h
/-- nothing is left: it isn't taken -/
theorem left_none (hg' : rightG g = true) (hx : x < g.length) {j d : Nat} (hj : gk g j = 2) (ho : overG g j x = true) (hd : gk g x = (d : Int)) (hl : ¬ 0 < leftT g F s x j d) (c : Nat) : leftT g F s (x + 1) k c = leftT g F s x k c := by
  have hg := rightG_is hg'
  have hdk := under_kind hg hx hj ho
  by_cases h : k = j ∧ c = d
  · obtain ⟨rfl, rfl⟩ := h
    have hn1 := frN_succ g F (c : Int) k x
    unfold leftT at hl ⊢
    cases hsel : selP g F s k with
    | false => rfl
    | true =>
      rw [hsel, if_pos rfl, if_pos (by omega)] at hl
      rw [if_pos rfl, if_pos rfl, if_pos (by omega), if_pos (by omega), hn1]
      split <;> omega
  · exact left_else hg hx hj ho hd h
/-- what has no home is not got -/
theorem find_homeless (hg' : rightG g = true) (hx : x < g.length) (h : gk g x = 0 ∨ gk g x = 1) : findP g F s x = false := by
  cases hf : findP g F s x with
  | false => rfl
  | true =>
    obtain ⟨j, hj, h1, h2⟩ := findP_is.1 hf
    have h3 := (get_free (sel_suit h1) hx h2).1
    have := under_kind (rightG_is hg') hx (suit_node (sel_suit h1)) h3
    omega
theorem find_unfree (hx : x < g.length) (h : hasB F (x : Int) = false) : findP g F s x = false := by
  cases hf : findP g F s x with
  | false => rfl
  | true =>
    obtain ⟨j, hj, h1, h2⟩ := findP_is.1 hf
    have h3 := (get_free (sel_suit h1) hx h2).2
    rw [h] at h3; cases h3
end

end Go.Proofs.YtchogijdkagiiaaGreatDoor

namespace Go.Proofs.YtchogijdkagiiaaGreatDoor
open Go.RowKit

/-- may a thing of the one kind be part of one of the other -/
def partK (k u : Int) : Bool := decide ((k = 1 ∧ u = 0) ∨ (k = 2 ∧ (u = 0 ∨ u = 1)) ∨ ((k = 3 ∨ k = 4) ∧ u = 2))
set_option maxRecDepth 100000 in
set_option maxHeartbeats 1000000 in
theorem partOf_any (k u : Int) (w : World) : Calls Tryz.prog 125 #[.int .i64 k, .int .i64 u] w fun e w' => e = .returned (.bool (partK k u)) ∧ w = w' := by
  have kd : ∀ (x q : Int), x = q ∨ ((x == q) = false ∧ x ≠ q) := fun x q => by
    by_cases h : x = q
    · exact .inl h
    · exact .inr ⟨by simpa using h, h⟩
  have KD := Lib.hid kd
  clear kd
  rcases KD.out k 1 with rfl | ⟨k1, n1⟩
  · rcases KD.out u 0 with rfl | ⟨u0, m0⟩
    · have e1 : Hid (partK 1 0 = true) := Lib.hid (by decide)
      go_enter Tryz.func125, Tryz.ntmps125
      go_wp2
      go_ret
      exact ⟨ret_bool e1.out, rfl⟩
    · have e1 : Hid (partK 1 u = false) := Lib.hid (by unfold partK; rw [decide_eq_false_iff_not]; omega)
      clear m0
      go_enter Tryz.func125, Tryz.ntmps125
      go_wp2
      go_ret
      exact ⟨ret_bool e1.out, rfl⟩
  · rcases KD.out k 2 with rfl | ⟨k2, n2⟩
    · clear k1 n1
      rcases KD.out u 0 with rfl | ⟨u0, m0⟩
      · have e1 : Hid (partK 2 0 = true) := Lib.hid (by decide)
        go_enter Tryz.func125, Tryz.ntmps125
        go_wp2
        go_ret
        exact ⟨ret_bool e1.out, rfl⟩
      · rcases KD.out u 1 with rfl | ⟨u1, m1⟩
        · have e1 : Hid (partK 2 1 = true) := Lib.hid (by decide)
          clear u0 m0
          go_enter Tryz.func125, Tryz.ntmps125
          go_wp2
          go_ret
          exact ⟨ret_bool e1.out, rfl⟩
        · have e1 : Hid (partK 2 u = false) := Lib.hid (by unfold partK; rw [decide_eq_false_iff_not]; omega)
          clear m0 m1
          go_enter Tryz.func125, Tryz.ntmps125
          go_wp2
          go_ret
          exact ⟨ret_bool e1.out, rfl⟩
    · rcases KD.out k 3 with rfl | ⟨k3, n3⟩
      · clear k1 n1 k2 n2
        rcases KD.out u 2 with rfl | ⟨u2, m2⟩
        · have e1 : Hid (partK 3 2 = true) := Lib.hid (by decide)
          go_enter Tryz.func125, Tryz.ntmps125
          go_wp2
          go_ret
          exact ⟨ret_bool e1.out, rfl⟩
        · have e1 : Hid (partK 3 u = false) := Lib.hid (by unfold partK; rw [decide_eq_false_iff_not]; omega)
          clear m2
          go_enter Tryz.func125, Tryz.ntmps125
          go_wp2
          go_ret
          exact ⟨ret_bool e1.out, rfl⟩
      · rcases KD.out k 4 with rfl | ⟨k4, n4⟩
        · clear k1 n1 k2 n2 k3 n3
          rcases KD.out u 2 with rfl | ⟨u2, m2⟩
          · have e1 : Hid (partK 4 2 = true) := Lib.hid (by decide)
            go_enter Tryz.func125, Tryz.ntmps125
            go_wp2
            go_ret
            exact ⟨ret_bool e1.out, rfl⟩
          · have e1 : Hid (partK 4 u = false) := Lib.hid (by unfold partK; rw [decide_eq_false_iff_not]; omega)
            clear m2
            go_enter Tryz.func125, Tryz.ntmps125
            go_wp2
            go_ret
            exact ⟨ret_bool e1.out, rfl⟩
        · have e1 : Hid (partK k u = false) := Lib.hid (by unfold partK; rw [decide_eq_false_iff_not]; omega)
          clear n1 n2 n3 n4
          go_enter Tryz.func125, Tryz.ntmps125
          go_wp2
          go_ret
          exact ⟨ret_bool e1.out, rfl⟩
theorem partOf_b {k u : Int} {w : World} {b : Bool} (h : partK k u = b) : Calls Tryz.prog 125 #[.int .i64 k, .int .i64 u] w fun e w' => e = .returned (.bool b) ∧ w = w' := by
  subst h; exact partOf_any k u w

/-- a byte that is a letter or a digit: what the two tests say -/
theorem tagC_parts (c : UInt8) : (tagC c = true ∧ ((decide (97 ≤ (c.toNat : Int)) = true ∧ decide ((c.toNat : Int) ≤ 122) = true ∧ decide (48 ≤ (c.toNat : Int)) = true ∧ decide ((c.toNat : Int) ≤ 57) = false) ∨
    (decide (97 ≤ (c.toNat : Int)) = false ∧ decide ((c.toNat : Int) ≤ 122) = true ∧ decide (48 ≤ (c.toNat : Int)) = true ∧ decide ((c.toNat : Int) ≤ 57) = true))) ∨
  (tagC c = false ∧ ((decide (97 ≤ (c.toNat : Int)) = false ∧ decide ((c.toNat : Int) ≤ 122) = true ∧ decide (48 ≤ (c.toNat : Int)) = false ∧ decide ((c.toNat : Int) ≤ 57) = true) ∨
    (decide (97 ≤ (c.toNat : Int)) = false ∧ decide ((c.toNat : Int) ≤ 122) = true ∧ decide (48 ≤ (c.toNat : Int)) = true ∧ decide ((c.toNat : Int) ≤ 57) = false) ∨
    (decide (97 ≤ (c.toNat : Int)) = true ∧ decide ((c.toNat : Int) ≤ 122) = false ∧ decide (48 ≤ (c.toNat : Int)) = true ∧ decide ((c.toNat : Int) ≤ 57) = false))) := by
  unfold tagC
  simp only [Bool.or_eq_true, Bool.and_eq_true, decide_eq_true_eq, decide_eq_false_iff_not, Bool.or_eq_false_iff, Bool.and_eq_false_iff]
  omega

def TagPost (s : ByteArray) (w : World) (e : Ending) (w' : World) : Prop := e = .returned (.bool (tagB s)) ∧ ∃ q, w' = w.drewN q
set_option maxRecDepth 100000 in
set_option maxHeartbeats 2000000 in
theorem tag_any (s : ByteArray) (w : World) (hs : s.size ≤ maxLen) :
    Calls Tryz.prog 56 #[.string s] w (TagPost s w) := by
  unfold maxLen at hs
  by_cases h16 : 16 < s.size
  · have e1 : Hid (tagB s = false) := Lib.hid (by unfold tagB; rw [decide_eq_false (by omega), Bool.and_false])
    go_enter Tryz.func56, Tryz.ntmps56
    go_wp2
    go_ret
    exact ⟨ret_bool e1.out, 0, rfl⟩
  · have h16d : decide ((16 : Int) < s.size) = false := by simp; omega
    go_enter Tryz.func56, Tryz.ntmps56
    go_wp2
    go_loopw [11] (fun i wr => ∃ k : Nat, k ≤ s.size ∧ i = .int .i64 k ∧ (s.data.toList.take k).all tagC = true ∧ ∃ q, wr = w.drewN q) (fun i _ => s.size - (intOf i).toNat)
    case atStart => exact ⟨0, Nat.zero_le _, rfl, rfl, 0, rfl⟩
    case round =>
      obtain ⟨k, hk, rfl, hpre, q, rfl⟩ := hrel
      have HP := Lib.hid hpre
      clear hpre
      by_cases hlt : k < s.size
      · have hs1 := Lib.hid (bytes_snoc s k hlt)
        rcases tagC_parts s[k] with ⟨hc, h⟩ | ⟨hc, h⟩
        · have e1 : Hid ((s.data.toList.take (k + 1)).all tagC = true) := Lib.hid (by rw [hs1.out, List.all_append, HP.out]; simp [hc])
          clear hc hs1
          rcases h with ⟨d0, d1, d2, d3⟩ | ⟨d0, d1, d2, d3⟩
          all_goals
            go_wp2
            go_quiet (fail)
            go_wp2
            go_roundw
            case rel => exact ⟨k + 1, by omega, by go_num, e1.out, q + _, rfl⟩
            case measure => simp [intOf]; omega
        · have e1 : Hid (tagB s = false) := Lib.hid (by
            unfold tagB
            have : s.data.toList.all tagC = false := by
              rw [List.all_eq_false]
              exact ⟨s[k], Array.getElem_mem_toList _, by rw [hc]; simp⟩
            rw [this]; rfl)
          clear hc hs1
          rcases h with ⟨d0, d1, d2, d3⟩ | ⟨d0, d1, d2, d3⟩ | ⟨d0, d1, d2, d3⟩
          all_goals
            go_wp2
            go_quiet (fail)
            go_wp2
            go_ret
            exact ⟨ret_bool e1.out, q + _, rfl⟩
      · have hkn : k = s.size := by omega
        have e1 : Hid (tagB s = true) := Lib.hid (by
          have := HP.out
          rw [List.take_of_length_le (by simp; omega)] at this
          unfold tagB
          rw [this, decide_eq_true (by omega)]; rfl)
        clear hkn
        go_wp2
        go_ret
        exact ⟨ret_bool e1.out, q, rfl⟩

end Go.Proofs.YtchogijdkagiiaaGreatDoor
