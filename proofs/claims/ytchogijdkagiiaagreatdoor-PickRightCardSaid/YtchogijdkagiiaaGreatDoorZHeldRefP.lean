/- The reference's Add of layer 10: what its answer reaches is what was reached. Written by gen/gen_heldrefaddp.py. -/
import Derived.Test.YtchogijdkagiiaaGreatDoorMg05
import Derived.Test.YtchogijdkagiiaaGreatDoorZHeldRefG
namespace Go.Proofs.YtchogijdkagiiaaGreatDoor
open Go.RowKit

theorem rnp_el {P : Nat → Prop} {w : World} {B n : Nat} {A : Option Addr} {l : Tb} (h : RN (EHp P) 4 w (Lt B) A n l) {k : Nat} (hk : k < n) : ∃ b off A2 m2 c2, A = some ⟨b, off, none⟩ ∧ b < B ∧ w.cell? ⟨b, off + k * 4, none⟩ = some (.int .i64 (l.getD k hd0).id) ∧ w.cell? ⟨b, off + k * 4 + 1, none⟩ = some (.slice A2 m2 c2) ∧ w.cell? ⟨b, off + k * 4 + 2, none⟩ = some (.int .i64 (l.getD k hd0).frm) ∧ w.cell? ⟨b, off + k * 4 + 3, none⟩ = some (.int .i64 (l.getD k hd0).to) ∧ EHp P w (Lt B) (l.getD k hd0) [.int .i64 (l.getD k hd0).id, .slice A2 m2 c2, .int .i64 (l.getD k hd0).frm, .int .i64 (l.getD k hd0).to] := by
  have hl : k < l.length := by rw [h.1]; exact hk
  obtain ⟨b, off, vs, e, hb, _, hc, hE⟩ := RN.at h (List.getElem?_eq_getElem hl)
  obtain ⟨A2, m2, c2, hv, h5⟩ := id hE
  subst hv
  have hg : l.getD k hd0 = l[k] := by rw [List.getD, List.getElem?_eq_getElem hl]; rfl
  rw [hg]
  exact ⟨b, off, A2, m2, c2, e, hb, hc 0 _ rfl, hc 1 _ rfl, hc 2 _ rfl, hc 3 _ rfl, hE⟩
theorem elp2 {P : Nat → Prop} {w W w' : World} {A : Option Addr} {m c : Nat} {h : Hd} (hh : HAsk w A m c h) (hp : RN EI 1 w (fun b => b < w.heap.size ∧ P b) A m h.things) (hb : Below w.heap.size w W) (hw : Below W.heap.size W w') : EHp P w' (Lt W.heap.size) h [.int .i64 h.id, .slice A m c, .int .i64 h.frm, .int .i64 h.to] :=
  ⟨A, m, c, rfl, RN.keep ei_steady hp (fun b hb' => (hw.block b (Nat.lt_of_lt_of_le hb'.1 hb.size)).trans (hb.block b hb'.1)) (fun _ hb' => ⟨Nat.lt_of_lt_of_le hb'.1 hb.size, hb'.2⟩), hh.nil, hh.cap, hh.few, hh.int⟩
theorem obp_on {P : Nat → Prop} {w W wr : World} {v : Value} {xs : Tb} {t : TypeId} (h : OB (EHp P) 4 t W v xs wr) (hs : w.heap.size ≤ W.heap.size) (hb : Below w.heap.size w wr) : ON (EHp P) 4 t w v xs wr := by
  obtain ⟨fl, h1, _, h3⟩ := h.on (ehp_steady P)
  refine ⟨fl, ⟨h1.1, h1.2.imp id ?_⟩, hb, h3⟩
  rintro ⟨g, cap, cur, e1, e2, e3⟩
  exact ⟨g, cap, cur, e1, Nat.le_trans hs e2, e3⟩
set_option maxRecDepth 100000 in
set_option maxHeartbeats 8000000 in
theorem refAddP_5 {P : Nat → Prop} (A : Option Addr) (n c : Nat) (l : Tb) (A2 : Option Addr) (m c2 : Nat) (h : Hd) (w : World) (hl : TAsk w A n c l) (hh : HAsk w A2 m c2 h) (h1 : rightT l = true) (h2 : mayH h = true) (h3 : hasT l h.id = false) (h4 : ¬ 256 ≤ n) (hlP : RN (EHp P) 4 w (Lt w.heap.size) A n l) (hhP : RN EI 1 w (fun b => b < w.heap.size ∧ P b) A2 m h.things) (h5 : addE l h = 0) :
    Calls Tryz.prog 31 #[.slice A n c, .agg #[.int .i64 h.id, .slice A2 m c2, .int .i64 h.frm, .int .i64 h.to]] w (TPPost P (insT l h) w) := by
  obtain ⟨i0, hi0, hz0, hz1, hz2⟩ : ∃ i, Tryz.prog.info? 41 = some i ∧ i.zero = some (.agg #[.int .i64 0, .slice none 0 0, .int .i64 0, .int .i64 0]) ∧ i.size = 4 ∧ i.bytes = 48 := info_parts held_info
  obtain ⟨W, hW⟩ : ∃ W, W = w.alloc (hO h A2 m c2) := ⟨_, rfl⟩
  have BX : Hid (BoxH W w.heap.size h A2 m c2) := Lib.hid (by rw [hW]; exact boxH_new w h A2 m c2)
  have hb0 : Below w.heap.size w W := by rw [hW]; exact (Below.refl _ _).alloc (Nat.le_refl _) _
  have HB := Lib.hid hb0
  have HW := Lib.hid (Below.refl W.heap.size W)
  have HT0 := Lib.hid (hl.next hb0)
  have HTP0 := Lib.hid (RN.next (ehp_steady P) hlP hb0)
  have HHP := Lib.hid hhP
  have H5 := Lib.hid h5
  have HHW := Lib.hid (hh.next hb0)
  have BX0 := BX
  have HB0 := Lib.hid hb0
  have HT := Lib.hid (hl.next hb0)
  have HH := Lib.hid (hh.next hb0)
  have HH0 := Lib.hid hh
  have HL0 := Lib.hid hl
  have hfew := hl.few
  unfold hO at hW
  unfold maxLen at hfew
  have R1 := Lib.hid h1
  have R2 := Lib.hid h2
  have R3 := Lib.hid h3
  have d4 : decide (256 ≤ n) = false := decide_eq_false h4
  clear hb0 hl hh h1 h2 h3 hlP hhP h5
  go_enter Tryz.func31, Tryz.ntmps31
  go_wp2_with fail
  rw [← hW]
  refine (refRightT_b HT.out.reads HT.out.few R1.out).mono ?_
  rintro e w1 ⟨rfl, hb⟩
  replace HB := Lib.hid (HB.out.trans (hb.mono HB.out.size))
  replace HW := Lib.hid (HW.out.trans (hb.mono HW.out.size))
  replace HT := Lib.hid (HT.out.next hb)
  replace HH := Lib.hid (HH.out.next hb)
  replace BX := Lib.hid (BX.out.next hb)
  clear hb
  clear hW
  have q0 := BX.out.c0
  have q1 := BX.out.c1
  have q2 := BX.out.c2
  have q3 := BX.out.c3
  go_wp2_with fail
  refine (refMay_b' HH.out R2.out).mono ?_
  rintro e w2 ⟨rfl, hb⟩
  replace HB := Lib.hid (HB.out.trans (hb.mono HB.out.size))
  replace HW := Lib.hid (HW.out.trans (hb.mono HW.out.size))
  replace HT := Lib.hid (HT.out.next hb)
  replace HH := Lib.hid (HH.out.next hb)
  replace BX := Lib.hid (BX.out.next hb)
  clear hb
  clear q0 q1 q2 q3
  have q0 := BX.out.c0
  have q1 := BX.out.c1
  have q2 := BX.out.c2
  have q3 := BX.out.c3
  have hat := refAt_any _ _ c _ h.id _ HT.out.reads HT.out.few
  have HAT := Lib.hid hat
  clear hat
  go_wp2_with fail
  refine HAT.out.mono ?_
  rintro e w5 ⟨⟨r, rfl, hfa⟩, rfl⟩
  clear q0 q1 q2 q3
  obtain rfl := first_no hfa (hasT_no.1 R3.out)
  clear hfa
  go_wp2
  go_loopw [6, 7, 8] (fun ov pv kv wr => ∃ k : Nat, k ≤ n ∧ kv = .int .i64 k ∧ pv = .bool (greatP l h k) ∧ (∀ j, j < k → clashH (l.getD j hd0) h = false) ∧ OB (EHp P) 4 41 W ov (outT l h k) wr) (fun _ _ kv _ => n - (intOf kv).toNat)
  case atStart => exact ⟨0, Nat.zero_le _, rfl, rfl, fun j hj => absurd hj (by omega), by rw [out_zero]; exact OB.nil W HW.out⟩
  case round =>
    obtain ⟨k, hk, rfl, rfl, hcl, hob⟩ := hrel
    have HCL := Lib.hid hcl
    have HO := Lib.hid hob
    clear HT HH BX HB HW
    have HW := Lib.hid hob.below
    clear hcl hob
    have HT := Lib.hid (HT0.out.next HW.out)
    have HH := Lib.hid (HHW.out.next HW.out)
    have BX := Lib.hid (BX0.out.next HW.out)
    by_cases hlt : k < n
    · have hkl : k < l.length := by rw [HL0.out.reads.len]; exact hlt
      obtain ⟨b, off, A4, m4, c4, rfl, hbl, c0, c1, c2', c3', hx⟩ := HT.out.reads.one hlt
      obtain ⟨x, hxx⟩ : ∃ x, l.getD k hd0 = x := ⟨_, rfl⟩
      rw [hxx] at c0 c2' c3' hx
      have HX := Lib.hid hx
      have HXX := Lib.hid hxx
      have hxm : x ∈ l := by rw [← hxx, getD_hd hkl]; exact List.getElem_mem hkl
      have hmx := (rightT_is.1 R1.out).may x hxm
      have RX := Lib.hid hmx.2.1
      have RH := Lib.hid (of_decide_eq_true R2.out : MayH h).2.1
      have HLEN : Hid ((outT l h k).length ≤ 300) := Lib.hid (by have := out_len (h := h) k (hasT_no.1 R3.out); have := (rightT_is.1 R1.out).few; omega)
      cases hcv : clashH x h with
      | true => exact absurd hcv (by rw [(add_ok.1 H5.out).free x hxm]; decide)
      | false =>
        have EC := Lib.hid hcv
        have HCN : Hid (∀ j, j < k + 1 → clashH (l.getD j hd0) h = false) := Lib.hid (fun j hj => by
          by_cases e : j = k
          · subst e; rw [hxx]; exact hcv
          · exact HCL.out j (by omega))
        cases hg : greatP l h k with
        | true =>
          have hs := out_great (rightT_is.1 R1.out) hkl hg
          rw [hxx] at hs
          have HS := Lib.hid hs
          clear hcv hx hxx hxm hmx hg hs
          go_wp2
          have zc0 : ∀ p : Later wr, p.now.cell? ⟨b, off + k * 4, none⟩ = some (.int .i64 x.id) := fun _ => Later.cell hbl c0
          have zc1 : ∀ p : Later wr, p.now.cell? ⟨b, off + k * 4 + 1, none⟩ = some (.slice A4 m4 c4) := fun _ => Later.cell hbl c1
          have zc2 : ∀ p : Later wr, p.now.cell? ⟨b, off + k * 4 + 2, none⟩ = some (.int .i64 x.frm) := fun _ => Later.cell hbl c2'
          have zc3 : ∀ p : Later wr, p.now.cell? ⟨b, off + k * 4 + 3, none⟩ = some (.int .i64 x.to) := fun _ => Later.cell hbl c3'
          have zc4 : ∀ p : Later wr, p.now.cell? ⟨w.heap.size, 0, none⟩ = some (.int .i64 h.id) := fun _ => Later.cell BX.out.lt BX.out.c0
          have zc5 : ∀ p : Later wr, p.now.cell? ⟨w.heap.size, 1, none⟩ = some (.slice A2 m c2) := fun _ => Later.cell BX.out.lt BX.out.c1
          have zc6 : ∀ p : Later wr, p.now.cell? ⟨w.heap.size, 2, none⟩ = some (.int .i64 h.frm) := fun _ => Later.cell BX.out.lt BX.out.c2
          have zc7 : ∀ p : Later wr, p.now.cell? ⟨w.heap.size, 3, none⟩ = some (.int .i64 h.to) := fun _ => Later.cell BX.out.lt BX.out.c3
          refine wp_region_later (by kernel_rfl) (by kernel_rfl) ?_
          repeat (first | go_big_quiet_skip | (go_big_quiet_want; go_big_quiet_op; first | go_big_quiet_on | (apply Exists.intro; refine ⟨fun pz => ?_, ?_⟩; (first | (go_at_call 49; exact Calls.later_of (refClash_b (HX.out.next pz.bel) (HH.out.next pz.bel) RX.out RH.out EC.out)) | fail); go_big_quiet_on)))
          refine wpQuiet_nil ?_
          intro _ hw'
          obtain ⟨pz, rfl⟩ := hw'
          obtain ⟨w1, hb⟩ := pz
          try dsimp only
          clear zc0 zc1 zc2 zc3 zc4 zc5 zc6 zc7
          replace HW := Lib.hid (HW.out.trans (hb.mono HW.out.size))
          replace HT := Lib.hid (HT.out.next hb)
          replace HH := Lib.hid (HH.out.next hb)
          replace BX := Lib.hid (BX.out.next hb)
          replace HO := Lib.hid (HO.out.next (ehp_steady P) hb)
          replace HX := Lib.hid (HX.out.next hb)
          clear hb
          clear hbl c0 c1 c2' c3'
          obtain ⟨b, off, A4, m4, c4, e1, hbl0, c0, c1, c2', c3', hel⟩ := rnp_el (RN.below (ehp_steady P) HTP0.out HW.out) hlt
          injection e1 with e1
          injection e1 with e2 e3
          subst e2 e3
          rw [HXX.out] at c0 c2' c3' hel
          have hbl := Nat.lt_of_lt_of_le hbl0 HW.out.size
          have HEL := Lib.hid hel
          clear hel hbl0
          go_wp2
          have zc0 : ∀ p : Later w1, p.now.cell? ⟨b, off + k * 4, none⟩ = some (.int .i64 x.id) := fun _ => Later.cell hbl c0
          have zc1 : ∀ p : Later w1, p.now.cell? ⟨b, off + k * 4 + 1, none⟩ = some (.slice A4 m4 c4) := fun _ => Later.cell hbl c1
          have zc2 : ∀ p : Later w1, p.now.cell? ⟨b, off + k * 4 + 2, none⟩ = some (.int .i64 x.frm) := fun _ => Later.cell hbl c2'
          have zc3 : ∀ p : Later w1, p.now.cell? ⟨b, off + k * 4 + 3, none⟩ = some (.int .i64 x.to) := fun _ => Later.cell hbl c3'
          have zc4 : ∀ p : Later w1, p.now.cell? ⟨w.heap.size, 0, none⟩ = some (.int .i64 h.id) := fun _ => Later.cell BX.out.lt BX.out.c0
          have zc5 : ∀ p : Later w1, p.now.cell? ⟨w.heap.size, 1, none⟩ = some (.slice A2 m c2) := fun _ => Later.cell BX.out.lt BX.out.c1
          have zc6 : ∀ p : Later w1, p.now.cell? ⟨w.heap.size, 2, none⟩ = some (.int .i64 h.frm) := fun _ => Later.cell BX.out.lt BX.out.c2
          have zc7 : ∀ p : Later w1, p.now.cell? ⟨w.heap.size, 3, none⟩ = some (.int .i64 h.to) := fun _ => Later.cell BX.out.lt BX.out.c3
          refine wp_region_later (by kernel_rfl) (by kernel_rfl) ?_
          repeat (first | go_big_quiet_skip | (go_big_quiet_want; go_big_quiet_op; first | go_big_quiet_on | (apply Exists.intro; refine ⟨fun pz => ?_, ?_⟩; (fail); go_big_quiet_on)))
          refine wpQuiet_nil ?_
          intro _ hw'
          obtain ⟨pz, rfl⟩ := hw'
          obtain ⟨w2, hb⟩ := pz
          try dsimp only
          clear zc0 zc1 zc2 zc3 zc4 zc5 zc6 zc7
          replace HW := Lib.hid (HW.out.trans (hb.mono HW.out.size))
          replace HT := Lib.hid (HT.out.next hb)
          replace HH := Lib.hid (HH.out.next hb)
          replace BX := Lib.hid (BX.out.next hb)
          replace HO := Lib.hid (HO.out.next (ehp_steady P) hb)
          replace HX := Lib.hid (HX.out.next hb)
          clear hb
          clear hbl c0 c1 c2' c3' HEL
          obtain ⟨b, off, A4, m4, c4, e1, hbl0, c0, c1, c2', c3', hel⟩ := rnp_el (RN.below (ehp_steady P) HTP0.out HW.out) hlt
          injection e1 with e1
          injection e1 with e2 e3
          subst e2 e3
          rw [HXX.out] at c0 c2' c3' hel
          have hbl := Nat.lt_of_lt_of_le hbl0 HW.out.size
          have HEL := Lib.hid hel
          clear hel hbl0
          go_wp2_with (at_builtin; refine wpList_append_OB rfl (.tmp 57) (.tmp 62) 24 rfl (ehp_steady P) HO.out i0 _ 48 Tryz.underlying24 hi0 hz0 hz1 hz2 rfl (by decide) rfl x #[.int .i64 x.id, .slice A4 m4 c4, .int .i64 x.frm, .int .i64 x.to] rfl rfl (by intro u hu; simp at hu; rcases hu with h | h | h | h <;> subst h <;> rfl) HEL.out (by have := HLEN.out; (try simp only [List.length_append, List.length_cons, List.length_nil]); unfold maxLen; omega) (by have := HLEN.out; (try simp only [List.length_append, List.length_cons, List.length_nil]); omega) ?_; intro v' w9 hOB hKP; refine Hid.out ?_)
          refine Lib.hid ?_
          have HO2 := Lib.hid (show OB (EHp P) 4 _ W _ _ _ from hOB)
          clear hOB hKP hbl c0 c1 c2' c3' HEL
          go_wp2
          go_roundw
          case rel => exact ⟨k + 1, by omega, by go_num, by rw [HS.out.1], HCN.out, by rw [HS.out.2]; exact HO2.out⟩
          case measure => simp [intOf]; omega
        | false =>
          by_cases hlo : h.id < x.id
          · have d0 : decide (h.id < x.id) = true := decide_eq_true hlo
            have hs := out_here (hasT_no.1 R3.out) hkl hg (by rw [hxx]; exact hlo)
            rw [hxx] at hs
            have HS := Lib.hid hs
            clear hcv hx hxx hxm hmx hg hs hlo
            go_wp2
            have zc0 : ∀ p : Later wr, p.now.cell? ⟨b, off + k * 4, none⟩ = some (.int .i64 x.id) := fun _ => Later.cell hbl c0
            have zc1 : ∀ p : Later wr, p.now.cell? ⟨b, off + k * 4 + 1, none⟩ = some (.slice A4 m4 c4) := fun _ => Later.cell hbl c1
            have zc2 : ∀ p : Later wr, p.now.cell? ⟨b, off + k * 4 + 2, none⟩ = some (.int .i64 x.frm) := fun _ => Later.cell hbl c2'
            have zc3 : ∀ p : Later wr, p.now.cell? ⟨b, off + k * 4 + 3, none⟩ = some (.int .i64 x.to) := fun _ => Later.cell hbl c3'
            have zc4 : ∀ p : Later wr, p.now.cell? ⟨w.heap.size, 0, none⟩ = some (.int .i64 h.id) := fun _ => Later.cell BX.out.lt BX.out.c0
            have zc5 : ∀ p : Later wr, p.now.cell? ⟨w.heap.size, 1, none⟩ = some (.slice A2 m c2) := fun _ => Later.cell BX.out.lt BX.out.c1
            have zc6 : ∀ p : Later wr, p.now.cell? ⟨w.heap.size, 2, none⟩ = some (.int .i64 h.frm) := fun _ => Later.cell BX.out.lt BX.out.c2
            have zc7 : ∀ p : Later wr, p.now.cell? ⟨w.heap.size, 3, none⟩ = some (.int .i64 h.to) := fun _ => Later.cell BX.out.lt BX.out.c3
            refine wp_region_later (by kernel_rfl) (by kernel_rfl) ?_
            repeat (first | go_big_quiet_skip | (go_big_quiet_want; go_big_quiet_op; first | go_big_quiet_on | (apply Exists.intro; refine ⟨fun pz => ?_, ?_⟩; (first | (go_at_call 49; exact Calls.later_of (refClash_b (HX.out.next pz.bel) (HH.out.next pz.bel) RX.out RH.out EC.out)) | fail); go_big_quiet_on)))
            refine wpQuiet_nil ?_
            intro _ hw'
            obtain ⟨pz, rfl⟩ := hw'
            obtain ⟨w1, hb⟩ := pz
            try dsimp only
            clear zc0 zc1 zc2 zc3 zc4 zc5 zc6 zc7
            replace HW := Lib.hid (HW.out.trans (hb.mono HW.out.size))
            replace HT := Lib.hid (HT.out.next hb)
            replace HH := Lib.hid (HH.out.next hb)
            replace BX := Lib.hid (BX.out.next hb)
            replace HO := Lib.hid (HO.out.next (ehp_steady P) hb)
            replace HX := Lib.hid (HX.out.next hb)
            clear hb
            clear hbl c0 c1 c2' c3'
            obtain ⟨b, off, A4, m4, c4, e1, hbl0, c0, c1, c2', c3', hel⟩ := rnp_el (RN.below (ehp_steady P) HTP0.out HW.out) hlt
            injection e1 with e1
            injection e1 with e2 e3
            subst e2 e3
            rw [HXX.out] at c0 c2' c3' hel
            have hbl := Nat.lt_of_lt_of_le hbl0 HW.out.size
            have HEL := Lib.hid hel
            clear hel hbl0
            go_wp2
            have zc0 : ∀ p : Later w1, p.now.cell? ⟨b, off + k * 4, none⟩ = some (.int .i64 x.id) := fun _ => Later.cell hbl c0
            have zc1 : ∀ p : Later w1, p.now.cell? ⟨b, off + k * 4 + 1, none⟩ = some (.slice A4 m4 c4) := fun _ => Later.cell hbl c1
            have zc2 : ∀ p : Later w1, p.now.cell? ⟨b, off + k * 4 + 2, none⟩ = some (.int .i64 x.frm) := fun _ => Later.cell hbl c2'
            have zc3 : ∀ p : Later w1, p.now.cell? ⟨b, off + k * 4 + 3, none⟩ = some (.int .i64 x.to) := fun _ => Later.cell hbl c3'
            have zc4 : ∀ p : Later w1, p.now.cell? ⟨w.heap.size, 0, none⟩ = some (.int .i64 h.id) := fun _ => Later.cell BX.out.lt BX.out.c0
            have zc5 : ∀ p : Later w1, p.now.cell? ⟨w.heap.size, 1, none⟩ = some (.slice A2 m c2) := fun _ => Later.cell BX.out.lt BX.out.c1
            have zc6 : ∀ p : Later w1, p.now.cell? ⟨w.heap.size, 2, none⟩ = some (.int .i64 h.frm) := fun _ => Later.cell BX.out.lt BX.out.c2
            have zc7 : ∀ p : Later w1, p.now.cell? ⟨w.heap.size, 3, none⟩ = some (.int .i64 h.to) := fun _ => Later.cell BX.out.lt BX.out.c3
            refine wp_region_later (by kernel_rfl) (by kernel_rfl) ?_
            repeat (first | go_big_quiet_skip | (go_big_quiet_want; go_big_quiet_op; first | go_big_quiet_on | (apply Exists.intro; refine ⟨fun pz => ?_, ?_⟩; (fail); go_big_quiet_on)))
            refine wpQuiet_nil ?_
            intro _ hw'
            obtain ⟨pz, rfl⟩ := hw'
            obtain ⟨w2, hb⟩ := pz
            try dsimp only
            clear zc0 zc1 zc2 zc3 zc4 zc5 zc6 zc7
            replace HW := Lib.hid (HW.out.trans (hb.mono HW.out.size))
            replace HT := Lib.hid (HT.out.next hb)
            replace HH := Lib.hid (HH.out.next hb)
            replace BX := Lib.hid (BX.out.next hb)
            replace HO := Lib.hid (HO.out.next (ehp_steady P) hb)
            replace HX := Lib.hid (HX.out.next hb)
            clear hb
            clear hbl c0 c1 c2' c3' HEL
            obtain ⟨b, off, A4, m4, c4, e1, hbl0, c0, c1, c2', c3', hel⟩ := rnp_el (RN.below (ehp_steady P) HTP0.out HW.out) hlt
            injection e1 with e1
            injection e1 with e2 e3
            subst e2 e3
            rw [HXX.out] at c0 c2' c3' hel
            have hbl := Nat.lt_of_lt_of_le hbl0 HW.out.size
            have HEL := Lib.hid hel
            clear hel hbl0
            have q0 := BX.out.c0
            have q1 := BX.out.c1
            have q2 := BX.out.c2
            have q3 := BX.out.c3
            go_wp2_with (at_builtin; refine wpList_append_OB rfl (.tmp 53) (.tmp 55) 24 rfl (ehp_steady P) HO.out i0 _ 48 Tryz.underlying24 hi0 hz0 hz1 hz2 rfl (by decide) rfl h #[.int .i64 h.id, .slice A2 m c2, .int .i64 h.frm, .int .i64 h.to] rfl rfl (by intro u hu; simp at hu; rcases hu with h | h | h | h <;> subst h <;> rfl) (elp2 HH0.out HHP.out HB0.out HW.out) (by have := HLEN.out; (try simp only [List.length_append, List.length_cons, List.length_nil]); unfold maxLen; omega) (by have := HLEN.out; (try simp only [List.length_append, List.length_cons, List.length_nil]); omega) ?_; intro v' w8 hOB hKP; refine Hid.out ?_)
            refine Lib.hid ?_
            have HO1 := Lib.hid (show OB (EHp P) 4 _ W _ _ _ from hOB)
            clear HO HT HH BX HX HW hOB hKP hbl c0 c1 c2' c3' HEL q0 q1 q2 q3
            have HO := HO1
            clear HO1
            have HW := Lib.hid HO.out.below
            obtain ⟨b, off, A4, m4, c4, e1, hbl0, c0, c1, c2', c3', hel⟩ := rnp_el (RN.below (ehp_steady P) HTP0.out HW.out) hlt
            injection e1 with e1
            injection e1 with e2 e3
            subst e2 e3
            rw [HXX.out] at c0 c2' c3' hel
            have hbl := Nat.lt_of_lt_of_le hbl0 HW.out.size
            have HEL := Lib.hid hel
            clear hel hbl0
            go_wp2_with (at_builtin; refine wpList_append_OB rfl (.tmp 57) (.tmp 62) 24 rfl (ehp_steady P) HO.out i0 _ 48 Tryz.underlying24 hi0 hz0 hz1 hz2 rfl (by decide) rfl x #[.int .i64 x.id, .slice A4 m4 c4, .int .i64 x.frm, .int .i64 x.to] rfl rfl (by intro u hu; simp at hu; rcases hu with h | h | h | h <;> subst h <;> rfl) HEL.out (by have := HLEN.out; (try simp only [List.length_append, List.length_cons, List.length_nil]); unfold maxLen; omega) (by have := HLEN.out; (try simp only [List.length_append, List.length_cons, List.length_nil]); omega) ?_; intro v' w9 hOB hKP; refine Hid.out ?_)
            refine Lib.hid ?_
            have HO2 := Lib.hid (show OB (EHp P) 4 _ W _ _ _ from hOB)
            clear hOB hKP hbl c0 c1 c2' c3' HEL
            go_wp2
            go_roundw
            case rel => exact ⟨k + 1, by omega, by go_num, by rw [HS.out.1], HCN.out, by rw [HS.out.2]; exact HO2.out⟩
            case measure => simp [intOf]; omega
          · have d0 : decide (h.id < x.id) = false := decide_eq_false hlo
            have hs := out_low (h := h) hkl hg (by rw [hxx]; exact hlo)
            rw [hxx] at hs
            have HS := Lib.hid hs
            clear hcv hx hxx hxm hmx hg hs hlo
            go_wp2
            have zc0 : ∀ p : Later wr, p.now.cell? ⟨b, off + k * 4, none⟩ = some (.int .i64 x.id) := fun _ => Later.cell hbl c0
            have zc1 : ∀ p : Later wr, p.now.cell? ⟨b, off + k * 4 + 1, none⟩ = some (.slice A4 m4 c4) := fun _ => Later.cell hbl c1
            have zc2 : ∀ p : Later wr, p.now.cell? ⟨b, off + k * 4 + 2, none⟩ = some (.int .i64 x.frm) := fun _ => Later.cell hbl c2'
            have zc3 : ∀ p : Later wr, p.now.cell? ⟨b, off + k * 4 + 3, none⟩ = some (.int .i64 x.to) := fun _ => Later.cell hbl c3'
            have zc4 : ∀ p : Later wr, p.now.cell? ⟨w.heap.size, 0, none⟩ = some (.int .i64 h.id) := fun _ => Later.cell BX.out.lt BX.out.c0
            have zc5 : ∀ p : Later wr, p.now.cell? ⟨w.heap.size, 1, none⟩ = some (.slice A2 m c2) := fun _ => Later.cell BX.out.lt BX.out.c1
            have zc6 : ∀ p : Later wr, p.now.cell? ⟨w.heap.size, 2, none⟩ = some (.int .i64 h.frm) := fun _ => Later.cell BX.out.lt BX.out.c2
            have zc7 : ∀ p : Later wr, p.now.cell? ⟨w.heap.size, 3, none⟩ = some (.int .i64 h.to) := fun _ => Later.cell BX.out.lt BX.out.c3
            refine wp_region_later (by kernel_rfl) (by kernel_rfl) ?_
            repeat (first | go_big_quiet_skip | (go_big_quiet_want; go_big_quiet_op; first | go_big_quiet_on | (apply Exists.intro; refine ⟨fun pz => ?_, ?_⟩; (first | (go_at_call 49; exact Calls.later_of (refClash_b (HX.out.next pz.bel) (HH.out.next pz.bel) RX.out RH.out EC.out)) | fail); go_big_quiet_on)))
            refine wpQuiet_nil ?_
            intro _ hw'
            obtain ⟨pz, rfl⟩ := hw'
            obtain ⟨w1, hb⟩ := pz
            try dsimp only
            clear zc0 zc1 zc2 zc3 zc4 zc5 zc6 zc7
            replace HW := Lib.hid (HW.out.trans (hb.mono HW.out.size))
            replace HT := Lib.hid (HT.out.next hb)
            replace HH := Lib.hid (HH.out.next hb)
            replace BX := Lib.hid (BX.out.next hb)
            replace HO := Lib.hid (HO.out.next (ehp_steady P) hb)
            replace HX := Lib.hid (HX.out.next hb)
            clear hb
            clear hbl c0 c1 c2' c3'
            obtain ⟨b, off, A4, m4, c4, e1, hbl0, c0, c1, c2', c3', hel⟩ := rnp_el (RN.below (ehp_steady P) HTP0.out HW.out) hlt
            injection e1 with e1
            injection e1 with e2 e3
            subst e2 e3
            rw [HXX.out] at c0 c2' c3' hel
            have hbl := Nat.lt_of_lt_of_le hbl0 HW.out.size
            have HEL := Lib.hid hel
            clear hel hbl0
            go_wp2
            have zc0 : ∀ p : Later w1, p.now.cell? ⟨b, off + k * 4, none⟩ = some (.int .i64 x.id) := fun _ => Later.cell hbl c0
            have zc1 : ∀ p : Later w1, p.now.cell? ⟨b, off + k * 4 + 1, none⟩ = some (.slice A4 m4 c4) := fun _ => Later.cell hbl c1
            have zc2 : ∀ p : Later w1, p.now.cell? ⟨b, off + k * 4 + 2, none⟩ = some (.int .i64 x.frm) := fun _ => Later.cell hbl c2'
            have zc3 : ∀ p : Later w1, p.now.cell? ⟨b, off + k * 4 + 3, none⟩ = some (.int .i64 x.to) := fun _ => Later.cell hbl c3'
            have zc4 : ∀ p : Later w1, p.now.cell? ⟨w.heap.size, 0, none⟩ = some (.int .i64 h.id) := fun _ => Later.cell BX.out.lt BX.out.c0
            have zc5 : ∀ p : Later w1, p.now.cell? ⟨w.heap.size, 1, none⟩ = some (.slice A2 m c2) := fun _ => Later.cell BX.out.lt BX.out.c1
            have zc6 : ∀ p : Later w1, p.now.cell? ⟨w.heap.size, 2, none⟩ = some (.int .i64 h.frm) := fun _ => Later.cell BX.out.lt BX.out.c2
            have zc7 : ∀ p : Later w1, p.now.cell? ⟨w.heap.size, 3, none⟩ = some (.int .i64 h.to) := fun _ => Later.cell BX.out.lt BX.out.c3
            refine wp_region_later (by kernel_rfl) (by kernel_rfl) ?_
            repeat (first | go_big_quiet_skip | (go_big_quiet_want; go_big_quiet_op; first | go_big_quiet_on | (apply Exists.intro; refine ⟨fun pz => ?_, ?_⟩; (fail); go_big_quiet_on)))
            refine wpQuiet_nil ?_
            intro _ hw'
            obtain ⟨pz, rfl⟩ := hw'
            obtain ⟨w2, hb⟩ := pz
            try dsimp only
            clear zc0 zc1 zc2 zc3 zc4 zc5 zc6 zc7
            replace HW := Lib.hid (HW.out.trans (hb.mono HW.out.size))
            replace HT := Lib.hid (HT.out.next hb)
            replace HH := Lib.hid (HH.out.next hb)
            replace BX := Lib.hid (BX.out.next hb)
            replace HO := Lib.hid (HO.out.next (ehp_steady P) hb)
            replace HX := Lib.hid (HX.out.next hb)
            clear hb
            clear hbl c0 c1 c2' c3' HEL
            obtain ⟨b, off, A4, m4, c4, e1, hbl0, c0, c1, c2', c3', hel⟩ := rnp_el (RN.below (ehp_steady P) HTP0.out HW.out) hlt
            injection e1 with e1
            injection e1 with e2 e3
            subst e2 e3
            rw [HXX.out] at c0 c2' c3' hel
            have hbl := Nat.lt_of_lt_of_le hbl0 HW.out.size
            have HEL := Lib.hid hel
            clear hel hbl0
            go_wp2_with (at_builtin; refine wpList_append_OB rfl (.tmp 57) (.tmp 62) 24 rfl (ehp_steady P) HO.out i0 _ 48 Tryz.underlying24 hi0 hz0 hz1 hz2 rfl (by decide) rfl x #[.int .i64 x.id, .slice A4 m4 c4, .int .i64 x.frm, .int .i64 x.to] rfl rfl (by intro u hu; simp at hu; rcases hu with h | h | h | h <;> subst h <;> rfl) HEL.out (by have := HLEN.out; (try simp only [List.length_append, List.length_cons, List.length_nil]); unfold maxLen; omega) (by have := HLEN.out; (try simp only [List.length_append, List.length_cons, List.length_nil]); omega) ?_; intro v' w9 hOB hKP; refine Hid.out ?_)
            refine Lib.hid ?_
            have HO2 := Lib.hid (show OB (EHp P) 4 _ W _ _ _ from hOB)
            clear hOB hKP hbl c0 c1 c2' c3' HEL
            go_wp2
            go_roundw
            case rel => exact ⟨k + 1, by omega, by go_num, by rw [HS.out.1], HCN.out, by rw [HS.out.2]; exact HO2.out⟩
            case measure => simp [intOf]; omega
    · have hkn : k = l.length := by rw [HL0.out.reads.len]; omega
      have hend := out_end (hasT_no.1 R3.out)
      have HLEN : Hid ((outT l h k).length ≤ 300) := Lib.hid (by have := out_len (h := h) k (hasT_no.1 R3.out); have := (rightT_is.1 R1.out).few; omega)
      rw [← hkn] at hend
      cases hg : greatP l h k with
      | true =>
        have HFI := Lib.hid (hend.1 hg)
        clear hg hend
        rw [HFI.out] at HO
        have HP := Lib.hid (obp_on HO.out HB0.out.size (HB0.out.trans (HW.out.mono HB0.out.size)))
        go_wp2
        go_ret2
        exact ⟨_, rfl, HP.out⟩
      | false =>
        have HFI := Lib.hid (hend.2 hg)
        clear hg hend
        have q0 := BX.out.c0
        have q1 := BX.out.c1
        have q2 := BX.out.c2
        have q3 := BX.out.c3
        go_wp2_with (at_builtin; refine wpList_append_OB rfl (.tmp 66) (.tmp 68) 24 rfl (ehp_steady P) HO.out i0 _ 48 Tryz.underlying24 hi0 hz0 hz1 hz2 rfl (by decide) rfl h #[.int .i64 h.id, .slice A2 m c2, .int .i64 h.frm, .int .i64 h.to] rfl rfl (by intro u hu; simp at hu; rcases hu with h | h | h | h <;> subst h <;> rfl) (elp2 HH0.out HHP.out HB0.out HW.out) (by have := HLEN.out; (try simp only [List.length_append, List.length_cons, List.length_nil]); unfold maxLen; omega) (by have := HLEN.out; (try simp only [List.length_append, List.length_cons, List.length_nil]); omega) ?_; intro v' w8 hOB hKP; refine Hid.out ?_)
        refine Lib.hid ?_
        rw [HFI.out] at hOB
        have HP := Lib.hid (obp_on hOB HB0.out.size (HB0.out.trans (hOB.below.mono HB0.out.size)))
        clear hOB hKP
        go_wp2
        go_ret2
        exact ⟨_, rfl, HP.out⟩
theorem refAddP_any {P : Nat → Prop} (A : Option Addr) (n c : Nat) (l : Tb) (A2 : Option Addr) (m c2 : Nat) (h : Hd) (w : World) (hl : TAsk w A n c l) (hh : HAsk w A2 m c2 h) (hlP : RN (EHp P) 4 w (Lt w.heap.size) A n l) (hhP : RN EI 1 w (fun b => b < w.heap.size ∧ P b) A2 m h.things) (h0 : addE l h = 0) : Calls Tryz.prog 31 #[.slice A n c, .agg #[.int .i64 h.id, .slice A2 m c2, .int .i64 h.frm, .int .i64 h.to]] w (TPPost P (addT l h) w) := by
  have hm0 := add_ok.1 h0
  have e : addT l h = insT l h := if_pos h0
  rw [e]
  exact refAddP_5 A n c l A2 m c2 h w hl hh (rightT_is.2 hm0.right) (decide_eq_true hm0.may) (hasT_no.2 hm0.new) (by have := hm0.room; rw [← hl.reads.len]; omega) hlP hhP h0

end Go.Proofs.YtchogijdkagiiaaGreatDoor
