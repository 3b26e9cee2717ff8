/- The program's twice: is a thing held twice at a time, by holdings each of which may be. The program's Right of layer 10. Written by gen/gen_heldpright.py. Words for memory: an array of 256 bools in a block of its own (what is busy): made, marked, loaded whole, asked at a place. The program's busy and Busy of layer 10. The program's Add of layer 10. Written by gen/gen_heldpadd.py. Go's slices.Sort and slices.Compact of times (int64) at this dump, by the library's contract. slices.Sort and slices.Compact of times, by the library's contracts, in a row of one's own. The program's times of layer 13: the times that count. Written by gen/gen_slotp.py. -/
import Derived.Test.YtchogijdkagiiaaGreatDoorMg10
import Derived.Test.YtchogijdkagiiaaGreatDoorMg04
import Derived.Laws.Rows
import Derived.Test.YtchogijdkagiiaaGreatDoorMg07
import Derived.Test.YtchogijdkagiiaaGreatDoorMg01
import Derived.Deep.RegionHeld3
import Derived.Shelf.SortM.Plain
import Derived.Shelf.SortM.SortNone
import Derived.Shelf.SlicesE.Compact
import Derived.Test.YtchogijdkagiiaaGreatDoorProg
import Derived.Test.YtchogijdkagiiaaGreatDoorMg05
namespace Go.Proofs.YtchogijdkagiiaaGreatDoor
open Go.RowKit

set_option maxRecDepth 100000 in
set_option maxHeartbeats 8000000 in
theorem twice_any (A : Option Addr) (n c : Nat) (l : Tb) (w : World) (hr : RT w w.heap.size A n l) (hnil : A = none → c = 0) (hf : FewT l) (hm : ∀ x ∈ l, MayH x) :
    Calls Tryz.prog 47 #[.slice A n c] w fun e w' => e = .returned (.bool (twiceB l)) ∧ Below w.heap.size w w' := by
  have HL := Lib.hid hr.len
  have HM := Lib.hid hm
  have HF := Lib.hid hf
  have hn : n ≤ 100 := by rw [← hr.len]; exact hf.1
  have HR := Lib.hid hr
  have HNIL := Lib.hid hnil
  obtain ⟨v, hv⟩ : ∃ v, twiceB l = v := ⟨_, rfl⟩
  have HV := Lib.hid hv
  rw [hv]
  clear hr hnil hf hm hv
  go_enter Tryz.func47, Tryz.ntmps47
  go_wp2_with (with_reducible refine wpList_alloc_tills rfl rfl ?_; intro w2 hm; refine Hid.out ?_)
  refine Lib.hid ?_
  have HT2 := Lib.hid hm
  clear hm
  go_wp2_with fail
  refine (byFrom_any w.heap.size A n c l w2 HT2.out.bel.size (HR.out.below HT2.out.bel) HNIL.out (by omega)).mono ?_
  rintro e w3 ⟨v1, m, rfl, hp, hs, hb3, hq3⟩
  obtain ⟨A1, c1, rfl, _, _⟩ := hq3.form
  have hml : m.length = n := by rw [hp.length_eq, HL.out]
  have HML := Lib.hid hml
  have HQ3 := Lib.hid hq3
  have HT3 := Lib.hid (HT2.out.next hb3)
  have HG2 : Hid (w.heap.size < w2.heap.size) := Lib.hid HT2.out.lt
  have HMM : Hid (∀ x ∈ m, MayH x ∧ x.things.length ≤ 100) := Lib.hid (fun x hx => ⟨HM.out x ((hp.mem_iff).1 hx), HF.out.2 x ((hp.mem_iff).1 hx)⟩)
  have HS := Lib.hid hs
  have HP : Hid (NoClash m ↔ NoClash l) := Lib.hid (noClash_perm hp)
  rw [hml] at HQ3 ⊢
  clear hp hs hb3 hq3 hml
  go_wp2
  go_loopw [11] (fun i wr => ∃ (k : Nat) (t : Nat → Int), k ≤ n ∧ i = .int .i64 k ∧ TillM w t wr ∧ Till m k 0 t ∧ RowQ EH 4 41 (Lt w.heap.size) w2.heap.size (.slice A1 n c1) m wr) (fun i _ => n - (intOf i).toNat)
  case atStart => exact ⟨0, _, Nat.zero_le _, rfl, HT3.out, till_zero m, HQ3.out⟩
  case round =>
    obtain ⟨k, t, hk, rfl, htm, htl, hq⟩ := hrel
    have HTM := Lib.hid htm
    have HTL := Lib.hid htl
    have HQ := Lib.hid hq
    clear htm htl hq
    by_cases hlt : k < n
    · have hkm : k < m.length := by rw [HML.out]; exact hlt
      obtain ⟨g, x, vs, e, hgb, hgl, hx, _, hc, A2, m2, c2, hvs, hrn, h1, h2, h3, h4⟩ := HQ.out.at hlt
      subst e hvs
      have hxx : m.getD k hd0 = x := by rw [List.getD, hx]; rfl
      have hxm : x ∈ m := List.mem_of_getElem? hx
      have hmay := (HMM.out x hxm).1
      have hm100 : m2 ≤ 100 := by have := (HMM.out x hxm).2; have := hrn.1; omega
      have HX : Hid (RI w w.heap.size A2 m2 x.things) := Lib.hid (RN.ri (hrn.keep ei_steady (fun b hb => (HTM.out.bel.block b hb).symm) (fun _ h => h)))
      have HXX := Lib.hid hxx
      have HMAY := Lib.hid hmay
      have HX2 := Lib.hid hrn.1
      have c0 := hc 0 _ rfl
      have c1' := hc 1 _ rfl
      have c2' := hc 2 _ rfl
      have c3' := hc 3 _ rfl
      rw [Nat.add_zero] at c0
      have hba : Below wr.heap.size wr (wr.alloc (hO x A2 m2 c2)) := (Below.refl _ _).alloc (Nat.le_refl _) _
      have HTA := Lib.hid (HTM.out.next hba)
      have HQA : Hid (RowQ EH 4 41 (Lt w.heap.size) w2.heap.size (.slice (some ⟨g, 0, none⟩) n c1) m (wr.alloc (hO x A2 m2 c2))) := Lib.hid (HQ.out.keep eh_steady (fun b hb => hba.block b (by
        rcases hb with hb | hb
        · exact Nat.lt_of_lt_of_le hb HTM.out.bel.size
        · exact (HQ.out.own b hb).2)))
      have HBX : Hid (BoxH (wr.alloc (hO x A2 m2 c2)) wr.heap.size x A2 m2 c2) := Lib.hid (boxH_new wr x A2 m2 c2)
      have HGX : Hid (w.heap.size < wr.heap.size ∧ g ≠ wr.heap.size) := Lib.hid ⟨HTM.out.lt, by omega⟩
      unfold hO at HTA HQA HBX
      obtain ⟨Wa, hWa⟩ : ∃ Wa, wr.alloc (.cells #[.int .i64 x.id, .slice A2 m2 c2, .int .i64 x.frm, .int .i64 x.to] 41) = Wa := ⟨_, rfl⟩
      rw [hWa] at HTA HQA HBX
      have q1 := HBX.out.c1
      clear hx hc hrn h1 h2 h3 h4 hba hgb hgl hxm hmay hkm hxx
      go_wp2_with (simp only [hWa])
      clear hWa q1
      go_loopw [18] (fun i wq => ∃ (j : Nat) (t : Nat → Int), j ≤ m2 ∧ i = .int .i64 j ∧ TillM w t wq ∧ Till m k j t ∧ RowQ EH 4 41 (Lt w.heap.size) w2.heap.size (.slice (some ⟨g, 0, none⟩) n c1) m wq ∧ BoxH wq wr.heap.size x A2 m2 c2) (fun i _ => m2 - (intOf i).toNat)
      case atStart => exact ⟨0, t, Nat.zero_le _, rfl, HTA.out, HTL.out, HQA.out, HBX.out⟩
      case round =>
        obtain ⟨j, t1, hj, rfl, htm, htl, hq, hbx⟩ := hrel
        have HTM1 := Lib.hid htm
        have HTL1 := Lib.hid htl
        have HQ1 := Lib.hid hq
        have HBX1 := Lib.hid hbx
        clear htm htl hq hbx
        by_cases hltj : j < m2
        · have hkm : k < m.length := by rw [HML.out]; exact hlt
          have hjl : j < (m.getD k hd0).things.length := by rw [HXX.out, HX2.out]; exact hltj
          obtain ⟨b2, o2, rfl, _, hcy⟩ := (HX.out.below HTM1.out.bel).one hltj
          have hym := right_mem HMAY.out.2.1 _ (z_mem (show j < x.things.length by rw [HX2.out]; exact hltj))
          obtain ⟨y, hy⟩ : ∃ y, x.things.getD j 0 = y := ⟨_, rfl⟩
          rw [hy] at hcy hym
          obtain ⟨q, rfl⟩ : ∃ q : Nat, y = (q : Int) := ⟨y.toNat, by omega⟩
          have hq256 : q < 256 := by omega
          have hqz : (q : Int) < 256 := by omega
          have HBAD := Lib.hid (HTL1.out.bad (fun z hz => (HMM.out z hz).1) HS.out hkm hjl)
          have HNXT := Lib.hid (HTL1.out.next (fun z hz => (HMM.out z hz).1) hkm hjl)
          rw [HXX.out, hy, Int.toNat_natCast] at HBAD HNXT
          have f2 := HBX1.out.c2
          have f3 := HBX1.out.c3
          have ht := HTM1.out.cell hq256
          have hz := HTM1.out.frozen q
          obtain ⟨tq, htq⟩ : ∃ tq, t1 q = tq := ⟨_, rfl⟩
          rw [htq] at HBAD HNXT ht
          clear hy hym hkm hjl htq
          by_cases hbad : x.frm < tq
          · have d0 : decide (x.frm < tq) = true := decide_eq_true hbad
            have HRES : Hid (v = true) := Lib.hid (by
              rw [← HV.out]
              unfold twiceB
              rw [decide_eq_false (fun h => HBAD.out hbad (HP.out.2 h))]
              rfl)
            clear hbad
            go_wp2
            go_quiet (fail)
            go_wp2
            go_ret
            exact ⟨by rw [HRES.out]; rfl, HTM1.out.bel.trans (bel_drew _ _ |>.mono (by first | exact HTM1.out.bel.size | simp))⟩
          · have d0 : decide (x.frm < tq) = false := decide_eq_false hbad
            have HN := Lib.hid (HNXT.out hbad)
            clear hbad
            go_wp2
            go_quiet (fail)
            go_wp2
            go_roundw
            case rel => exact ⟨j + 1, tset t1 q x.to, by omega, by go_num, (HTM1.out.drewN _).set _, HN.out, HQ1.out.keep eh_steady (fun b hb => by
                refine (Below.heap_setCell _ _ _ _ ?_).trans rfl
                rcases hb with hb | hb
                · exact Nat.ne_of_lt hb
                · have := (HQ1.out.own b hb).1
                  have := HG2.out
                  show b ≠ w.heap.size
                  omega), (HBX1.out.next (bel_drew _ _)).other (by have := HGX.out.1; omega)⟩
            case measure => simp [intOf]; omega
        · have hjm : j = m2 := by omega
          have HN := Lib.hid (HTL1.out.step (by rw [HML.out]; exact hlt) (by rw [HXX.out, HX2.out]; omega))
          go_wp2
          go_roundw
          case rel => exact ⟨k + 1, t1, by omega, by go_num, HTM1.out, HN.out, HQ1.out⟩
          case measure => simp [intOf]; omega
    · have hkn : k = n := by omega
      have HRES : Hid (v = false) := Lib.hid (by
        rw [← HV.out]
        unfold twiceB
        rw [decide_eq_true (HP.out.1 (HTL.out.all (by rw [HML.out]; omega)))]
        rfl)
      go_wp2
      go_ret
      exact ⟨by rw [HRES.out]; rfl, HTM.out.bel⟩

end Go.Proofs.YtchogijdkagiiaaGreatDoor

namespace Go.Proofs.YtchogijdkagiiaaGreatDoor
open Go.RowKit

set_option maxRecDepth 100000 in
set_option maxHeartbeats 8000000 in
theorem heldRight_any (A : Option Addr) (n c : Nat) (l : Tb) (w : World) (hr : RT w w.heap.size A n l) (hnil : A = none → c = 0) (hf : FewT l) :
    Calls Tryz.prog 25 #[.slice A n c] w fun e w' => e = .returned (.bool (rightT l)) ∧ Below w.heap.size w w' := by
  have HR0 := Lib.hid hr
  have HL := Lib.hid hr.len
  have HNIL := Lib.hid hnil
  have HF := Lib.hid hf
  have hn : n ≤ 100 := by rw [← hr.len]; exact hf.1
  obtain ⟨rv, hrv⟩ : ∃ v, rightT l = v := ⟨_, rfl⟩
  have HV := Lib.hid hrv
  rw [hrv]
  clear hr hnil hf hrv
  go_enter Tryz.func25, Tryz.ntmps25
  go_wp2
  go_loopw [10] (fun iv wr => ∃ i : Nat, i ≤ n ∧ iv = .int .i64 i ∧ RiseH l i ∧ Below w.heap.size w wr) (fun iv _ => n - (intOf iv).toNat)
  case atStart => exact ⟨0, Nat.zero_le _, rfl, rise_zero l, Below.refl _ _⟩
  case round =>
    obtain ⟨i, hi, rfl, hrp, hbel⟩ := hrel
    have HRP := Lib.hid hrp
    have HB := Lib.hid hbel
    have HR := Lib.hid (HR0.out.next hbel)
    clear hrp hbel
    by_cases hlt : i < n
    · obtain ⟨b, off, A2, m2, c2, rfl, hbl, c0, c1, c2', c3, hx⟩ := HR.out.one hlt
      obtain ⟨x, hxx⟩ : ∃ x, l.getD i hd0 = x := ⟨_, rfl⟩
      rw [hxx] at c0 c2' c3 hx
      have HXX := Lib.hid hxx
      have hil : i < l.length := by rw [HL.out]; exact hlt
      have hba : Below wr.heap.size wr (wr.alloc (hO x A2 m2 c2)) := (Below.refl _ _).alloc (Nat.le_refl _) _
      have HXa := Lib.hid (hx.next hba)
      have HRa := Lib.hid (HR.out.next hba)
      have HBa := Lib.hid (HB.out.trans (hba.mono HB.out.size))
      have HBX : Hid (BoxH (wr.alloc (hO x A2 m2 c2)) wr.heap.size x A2 m2 c2) := Lib.hid (boxH_new wr x A2 m2 c2)
      have hbl' : b < (wr.alloc (hO x A2 m2 c2)).heap.size := by simp; omega
      unfold hO at HXa HRa HBa HBX hbl'
      obtain ⟨Wa, hWa⟩ : ∃ Wa, wr.alloc (.cells #[.int .i64 x.id, .slice A2 m2 c2, .int .i64 x.frm, .int .i64 x.to] 41) = Wa := ⟨_, rfl⟩
      rw [hWa] at HXa HRa HBa HBX hbl'
      clear hx hxx hba HR HB
      have HB := Lib.hid HBa.out
      have HX := Lib.hid HXa.out
      have HR := Lib.hid HRa.out
      clear HBa HXa HRa
      by_cases hm : MayH x
      · have HMX := Lib.hid hm
        have EM : Hid (mayH x = true) := Lib.hid (decide_eq_true hm)
        clear hm
        by_cases h0 : 0 < i
        · obtain ⟨b', off', A4, m4, c4, e1, hbl2, e0, _, _, _, _⟩ := HR.out.one (show i - 1 < n by omega)
          injection e1 with e1
          injection e1 with e2 e3
          subst e2 e3
          obtain ⟨y, hy⟩ : ∃ y, (l.getD (i - 1) hd0).id = y := ⟨_, rfl⟩
          rw [hy] at e0
          have HYI := Lib.hid hy
          have g0 : decide (0 < i) = true := decide_eq_true h0
          have g1 : ((i : Int) - 1) = ((i - 1 : Nat) : Int) := by omega
          have hiz : (0 : Int) ≤ (i : Int) - 1 := by omega
          have hin : (i : Int) - 1 < (n : Int) := by omega
          clear hy hbl2
          by_cases h1 : x.id ≤ y
          · have g2 : decide (x.id ≤ y) = true := decide_eq_true h1
            have HNO : Hid (rightT l = false) := Lib.hid (RiseH.bad_id hil h0 (by rw [HXX.out, HYI.out]; exact h1))
            clear h1
            go_wp2_with (simp only [hWa])
            clear hWa c0 c1 c2' c3
            have zc0 : ∀ p : Later Wa, p.now.cell? ⟨wr.heap.size, 0, none⟩ = some (.int .i64 x.id) := fun _ => Later.cell HBX.out.lt HBX.out.c0
            have zc1 : ∀ p : Later Wa, p.now.cell? ⟨wr.heap.size, 1, none⟩ = some (.slice A2 m2 c2) := fun _ => Later.cell HBX.out.lt HBX.out.c1
            have zc2 : ∀ p : Later Wa, p.now.cell? ⟨wr.heap.size, 2, none⟩ = some (.int .i64 x.frm) := fun _ => Later.cell HBX.out.lt HBX.out.c2
            have zc3 : ∀ p : Later Wa, p.now.cell? ⟨wr.heap.size, 3, none⟩ = some (.int .i64 x.to) := fun _ => Later.cell HBX.out.lt HBX.out.c3
            have zc4 : ∀ p : Later Wa, p.now.cell? ⟨b, off + (i - 1) * 4, none⟩ = some (.int .i64 y) := fun _ => Later.cell hbl' e0
            refine wp_region_later (by kernel_rfl) (by kernel_rfl) ?_
            repeat (first | go_big_quiet_skip | (go_big_quiet_want; go_big_quiet_op; first | go_big_quiet_on | (apply Exists.intro; refine ⟨fun pz => ?_, ?_⟩; (first | (go_at_call 41; exact Calls.later_of (may_any (HX.out.next pz.bel) EM.out)) | fail); go_big_quiet_on)))
            refine wpQuiet_nil ?_
            intro _ hw'
            obtain ⟨pz, rfl⟩ := hw'
            obtain ⟨w1, hb⟩ := pz
            try dsimp only
            clear zc0 zc1 zc2 zc3 zc4
            replace HB := Lib.hid (HB.out.trans (hb.mono HB.out.size))
            replace HX := Lib.hid (HX.out.next hb)
            replace HR := Lib.hid (HR.out.next hb)
            clear hb
            go_wp2
            go_ret
            exact ⟨by rw [← HV.out, HNO.out]; rfl, HB.out⟩
          · have g2 : decide (x.id ≤ y) = false := decide_eq_false h1
            have HID : Hid (0 < i → (l.getD (i - 1) hd0).id < (l.getD i hd0).id) := Lib.hid (fun _ => by rw [HYI.out, HXX.out]; omega)
            clear h1
            go_wp2_with (simp only [hWa])
            clear hWa c0 c1 c2' c3
            have zc0 : ∀ p : Later Wa, p.now.cell? ⟨wr.heap.size, 0, none⟩ = some (.int .i64 x.id) := fun _ => Later.cell HBX.out.lt HBX.out.c0
            have zc1 : ∀ p : Later Wa, p.now.cell? ⟨wr.heap.size, 1, none⟩ = some (.slice A2 m2 c2) := fun _ => Later.cell HBX.out.lt HBX.out.c1
            have zc2 : ∀ p : Later Wa, p.now.cell? ⟨wr.heap.size, 2, none⟩ = some (.int .i64 x.frm) := fun _ => Later.cell HBX.out.lt HBX.out.c2
            have zc3 : ∀ p : Later Wa, p.now.cell? ⟨wr.heap.size, 3, none⟩ = some (.int .i64 x.to) := fun _ => Later.cell HBX.out.lt HBX.out.c3
            have zc4 : ∀ p : Later Wa, p.now.cell? ⟨b, off + (i - 1) * 4, none⟩ = some (.int .i64 y) := fun _ => Later.cell hbl' e0
            refine wp_region_later (by kernel_rfl) (by kernel_rfl) ?_
            repeat (first | go_big_quiet_skip | (go_big_quiet_want; go_big_quiet_op; first | go_big_quiet_on | (apply Exists.intro; refine ⟨fun pz => ?_, ?_⟩; (first | (go_at_call 41; exact Calls.later_of (may_any (HX.out.next pz.bel) EM.out)) | fail); go_big_quiet_on)))
            refine wpQuiet_nil ?_
            intro _ hw'
            obtain ⟨pz, rfl⟩ := hw'
            obtain ⟨w1, hb⟩ := pz
            try dsimp only
            clear zc0 zc1 zc2 zc3 zc4
            replace HB := Lib.hid (HB.out.trans (hb.mono HB.out.size))
            replace HX := Lib.hid (HX.out.next hb)
            replace HR := Lib.hid (HR.out.next hb)
            clear hb
            go_wp2
            go_roundw
            case rel => exact ⟨i + 1, by omega, by go_num, HRP.out.next (by rw [HL.out]; exact hlt) (by rw [HXX.out]; exact HMX.out) HID.out, HB.out⟩
            case measure => simp [intOf]; omega
        · have g0 : decide (0 < i) = false := decide_eq_false h0
          have HID : Hid (0 < i → (l.getD (i - 1) hd0).id < (l.getD i hd0).id) := Lib.hid (fun h => absurd h h0)
          go_wp2_with (simp only [hWa])
          clear hWa c0 c1 c2' c3
          have zc0 : ∀ p : Later Wa, p.now.cell? ⟨wr.heap.size, 0, none⟩ = some (.int .i64 x.id) := fun _ => Later.cell HBX.out.lt HBX.out.c0
          have zc1 : ∀ p : Later Wa, p.now.cell? ⟨wr.heap.size, 1, none⟩ = some (.slice A2 m2 c2) := fun _ => Later.cell HBX.out.lt HBX.out.c1
          have zc2 : ∀ p : Later Wa, p.now.cell? ⟨wr.heap.size, 2, none⟩ = some (.int .i64 x.frm) := fun _ => Later.cell HBX.out.lt HBX.out.c2
          have zc3 : ∀ p : Later Wa, p.now.cell? ⟨wr.heap.size, 3, none⟩ = some (.int .i64 x.to) := fun _ => Later.cell HBX.out.lt HBX.out.c3
          refine wp_region_later (by kernel_rfl) (by kernel_rfl) ?_
          repeat (first | go_big_quiet_skip | (go_big_quiet_want; go_big_quiet_op; first | go_big_quiet_on | (apply Exists.intro; refine ⟨fun pz => ?_, ?_⟩; (first | (go_at_call 41; exact Calls.later_of (may_any (HX.out.next pz.bel) EM.out)) | fail); go_big_quiet_on)))
          refine wpQuiet_nil ?_
          intro _ hw'
          obtain ⟨pz, rfl⟩ := hw'
          obtain ⟨w1, hb⟩ := pz
          try dsimp only
          clear zc0 zc1 zc2 zc3
          replace HB := Lib.hid (HB.out.trans (hb.mono HB.out.size))
          replace HX := Lib.hid (HX.out.next hb)
          replace HR := Lib.hid (HR.out.next hb)
          clear hb
          go_wp2
          go_roundw
          case rel => exact ⟨i + 1, by omega, by go_num, HRP.out.next (by rw [HL.out]; exact hlt) (by rw [HXX.out]; exact HMX.out) HID.out, HB.out⟩
          case measure => simp [intOf]; omega
      · have EM : Hid (mayH x = false) := Lib.hid (decide_eq_false hm)
        have HNO : Hid (rightT l = false) := Lib.hid (RiseH.bad_may hil (by rw [HXX.out]; exact EM.out))
        clear hm
        go_wp2_with (simp only [hWa])
        clear hWa c0 c1 c2' c3
        have zc0 : ∀ p : Later Wa, p.now.cell? ⟨wr.heap.size, 0, none⟩ = some (.int .i64 x.id) := fun _ => Later.cell HBX.out.lt HBX.out.c0
        have zc1 : ∀ p : Later Wa, p.now.cell? ⟨wr.heap.size, 1, none⟩ = some (.slice A2 m2 c2) := fun _ => Later.cell HBX.out.lt HBX.out.c1
        have zc2 : ∀ p : Later Wa, p.now.cell? ⟨wr.heap.size, 2, none⟩ = some (.int .i64 x.frm) := fun _ => Later.cell HBX.out.lt HBX.out.c2
        have zc3 : ∀ p : Later Wa, p.now.cell? ⟨wr.heap.size, 3, none⟩ = some (.int .i64 x.to) := fun _ => Later.cell HBX.out.lt HBX.out.c3
        refine wp_region_later (by kernel_rfl) (by kernel_rfl) ?_
        repeat (first | go_big_quiet_skip | (go_big_quiet_want; go_big_quiet_op; first | go_big_quiet_on | (apply Exists.intro; refine ⟨fun pz => ?_, ?_⟩; (first | (go_at_call 41; exact Calls.later_of (may_any (HX.out.next pz.bel) EM.out)) | fail); go_big_quiet_on)))
        refine wpQuiet_nil ?_
        intro _ hw'
        obtain ⟨pz, rfl⟩ := hw'
        obtain ⟨w1, hb⟩ := pz
        try dsimp only
        clear zc0 zc1 zc2 zc3
        replace HB := Lib.hid (HB.out.trans (hb.mono HB.out.size))
        replace HX := Lib.hid (HX.out.next hb)
        replace HR := Lib.hid (HR.out.next hb)
        clear hb
        go_wp2
        go_ret
        exact ⟨by rw [← HV.out, HNO.out]; rfl, HB.out⟩
    · have hin : i = n := by omega
      have hil : i = l.length := by rw [HL.out]; exact hin
      have HRE : Hid (RiseH l l.length) := Lib.hid (by rw [← hil]; exact HRP.out)
      have HE : Hid (rv = !twiceB l) := Lib.hid (by rw [← HV.out]; exact HRE.out.end (by rw [HL.out]; omega))
      clear hil
      go_wp2_with fail
      refine (twice_any A n c l wr HR.out HNIL.out HF.out (fun x hx => HRE.out.may x (by rw [List.take_length]; exact hx))).mono ?_
      rintro e w2 ⟨rfl, hb⟩
      have HB2 := Lib.hid (HB.out.trans (hb.mono HB.out.size))
      obtain ⟨tv, htv⟩ : ∃ v, twiceB l = v := ⟨_, rfl⟩
      rw [htv] at HE ⊢
      clear hb htv
      go_wp2
      go_ret
      exact ⟨by rw [HE.out]; rfl, HB2.out⟩
theorem heldRight_b {A : Option Addr} {n c : Nat} {l : Tb} {w : World} {v : Bool} (hr : RT w w.heap.size A n l) (hnil : A = none → c = 0) (hf : FewT l) (h : rightT l = v) :
    Calls Tryz.prog 25 #[.slice A n c] w fun e w' => e = .returned (.bool v) ∧ Below w.heap.size w w' := by
  subst h; exact heldRight_any A n c l w hr hnil hf

end Go.Proofs.YtchogijdkagiiaaGreatDoor

namespace Go.Proofs.YtchogijdkagiiaaGreatDoor
open Go.RowKit

/-- the cells of marks -/
def hmarksA (p : Nat → Bool) : Array Value := ((List.range 256).map fun k => Value.bool (p k)).toArray
theorem hmarksA_size (p : Nat → Bool) : (hmarksA p).size = 256 := by unfold hmarksA; simp
theorem hmarksA_at (p : Nat → Bool) {k : Nat} (hk : k < 256) : (hmarksA p)[k]? = some (.bool (p k)) := by unfold hmarksA; simp [hk]
/-- one mark more, or less -/
def hmset (p : Nat → Bool) (k : Nat) (b : Bool) : Nat → Bool := fun j => if j = k then b else p j
theorem hmset_same (p : Nat → Bool) (k : Nat) (b : Bool) : hmset p k b k = b := by unfold hmset; rw [if_pos rfl]
theorem hmset_other (p : Nat → Bool) {k j : Nat} (b : Bool) (h : j ≠ k) : hmset p k b j = p j := by unfold hmset; rw [if_neg h]
theorem hmarksA_set (p : Nat → Bool) (k : Nat) (b : Bool) : (hmarksA p).setIfInBounds k (.bool b) = hmarksA (hmset p k b) := by
  apply Array.ext
  · simp [hmarksA_size]
  · intro j h1 h2
    rw [hmarksA_size] at h2
    have e2 := hmarksA_at (hmset p k b) h2
    rw [Array.getElem?_eq_getElem (by rw [hmarksA_size]; exact h2)] at e2
    have e2' := Option.some.inj e2
    rw [e2', Array.getElem_setIfInBounds (by rw [hmarksA_size]; exact h2)]
    split
    · rename_i h; subst h; rw [hmset_same]
    · rename_i h
      have e1 := hmarksA_at p h2
      rw [Array.getElem?_eq_getElem (by rw [hmarksA_size]; exact h2)] at e1
      rw [Option.some.inj e1, hmset_other _ _ (fun e => h e.symm)]
theorem hmarksA_ext {p q : Nat → Bool} (h : ∀ k, k < 256 → p k = q k) : hmarksA p = hmarksA q := by
  unfold hmarksA
  congr 1
  apply List.map_congr_left
  intro k hk
  rw [h k (List.mem_range.1 hk)]

theorem hmarks_closed : (Tryz.prog.info? 89).map (fun i => (i.zero.map Value.cells, i.size)) = some (some (hmarksA fun _ => false), 256) := by kernel_rfl
theorem hmarks_size : (Tryz.prog.info? 89).map (·.size) = some 256 := by kernel_rfl

/-- marks in a new block, behind a world -/
structure HMarks (W : World) (p : Nat → Bool) (wr : World) : Prop where
  bel : Below W.heap.size W wr
  at' : wr.heap[W.heap.size]? = some (.cells (hmarksA p) 89 (0, 0))
section
variable {W wr w' : World} {p : Nat → Bool} {k : Nat}
theorem HMarks.lt (h : HMarks W p wr) : W.heap.size < wr.heap.size := (Array.getElem?_eq_some_iff.1 h.at').1
theorem HMarks.cell (h : HMarks W p wr) (hk : k < 256) : wr.cell? ⟨W.heap.size, k, none⟩ = some (.bool (p k)) := by
  rw [cell_of_row _ _ _ _ _ _ h.at', hmarksA_at p hk]
theorem HMarks.frozen (h : HMarks W p wr) (k : Nat) : wr.frozen? ⟨W.heap.size, k, none⟩ = false := frozen_of_row _ _ _ _ _ h.at'
theorem HMarks.next (h : HMarks W p wr) (hb : Below wr.heap.size wr w') : HMarks W p w' := ⟨h.bel.trans (hb.mono h.bel.size), (hb.block _ h.lt).trans h.at'⟩
theorem HMarks.set (h : HMarks W p wr) (b : Bool) : HMarks W (hmset p k b) (wr.setCell ⟨W.heap.size, k, none⟩ (.bool b)) := by
  refine ⟨h.bel.setCell (Nat.le_refl _) _, ?_⟩
  rw [heap_setCell_same wr W.heap.size k _ _ _ h.at', hmarksA_set]
theorem HMarks.ext {q : Nat → Bool} (h : HMarks W p wr) (he : ∀ k, k < 256 → p k = q k) : HMarks W q wr := ⟨h.bel, by rw [h.at', hmarksA_ext he]⟩
theorem hmarks_made (W : World) : HMarks W (fun _ => false) (W.alloc (.cells (hmarksA fun _ => false) 89)) :=
  ⟨(Below.refl _ _).alloc (Nat.le_refl _) _, heap_alloc_new W _⟩
end

/-- 'var in marks' -/
theorem wpList_alloc_hmarks {ops : Array Oper} {rest : List Oper} {o : Oper} {a : Act} {Q : Exit → Act → World → Prop} {w : World} (hgd : o.guard = none) (ho : o.op = .alloc 89)
    (h : ∀ w', HMarks w (fun _ => false) w' → wpList Tryz.prog ops Q rest (a.put o.dst (.pointer (some ⟨w.heap.size, 0, none⟩))) w') : wpList Tryz.prog ops Q (o :: rest) a w := by
  refine wpList_plain hgd fun K hK => ?_
  have hc := hmarks_closed
  cases hi : Tryz.prog.info? 89 with
  | none => rw [hi] at hc; cases hc
  | some i =>
    rw [hi] at hc
    simp only [Option.map_some, Option.some.injEq, Prod.mk.injEq] at hc
    obtain ⟨z, hz, hzc⟩ : ∃ z, i.zero = some z ∧ z.cells = hmarksA fun _ => false := by
      cases hz : i.zero with
      | none => rw [hz] at hc; cases hc.1
      | some z => rw [hz] at hc; exact ⟨z, rfl, Option.some.inj hc.1⟩
    have hrun : (Instr.alloc 89 true (.tuple #[])).run Tryz.prog w = .ok (.pointer (some ⟨w.heap.size, 0, none⟩)) (w.alloc (.cells (hmarksA fun _ => false) 89)) := by
      simp [Instr.alloc, zeroValue, typeInfo, hi, hz, newVar, newRow, hzc]
    unfold Oper.wp
    simp [execOp, ho, hrun, Result.andThen]
    exact hK _ _ (h _ (hmarks_made w))
/-- 'in', as a value -/
theorem wpList_load_hmarks {ops : Array Oper} {rest : List Oper} {o : Oper} {a : Act} {Q : Exit → Act → World → Prop} {W w : World} {p : Nat → Bool} (hgd : o.guard = none) (x : Operand) (ho : o.op = .load 89 x)
    (hm : HMarks W p w) (hx : a.eval x = .pointer (some ⟨W.heap.size, 0, none⟩))
    (h : wpList Tryz.prog ops Q rest (a.put o.dst (.agg (hmarksA p))) w) : wpList Tryz.prog ops Q (o :: rest) a w :=
  wpList_load_row hgd _ x ho W.heap.size hx _ (hmarksA p) (0, 0) _ hm.at' Tryz.underlying89 rfl (by rw [hmarks_size, hmarksA_size]) h
/-- a mark of a value of marks -/
theorem run_ix_hmarks (p : Nat → Bool) {k : Nat} (hk : k < 256) (W : World) : (Instr.index 89 (.agg (hmarksA p)) (.int .i64 (k : Int))).run Tryz.prog W = .ok (.bool (p k)) W := by
  have h1 := hmarksA_at p hk
  have h2 : k < 256 := hk
  simp [Instr.index, run_underlying Tryz.underlying89, asIntOf, part, isAgg, run_underlying Tryz.underlying4, Tryz.sizeOf4, h1, h2]

end Go.Proofs.YtchogijdkagiiaaGreatDoor

namespace Go.Proofs.YtchogijdkagiiaaGreatDoor
open Go.RowKit

theorem append_EI {P : Program} {ops : Array Oper} {rest : List Oper} {o : Oper} {a : Act} {Q : Exit → Act → World → Prop} {w wr : World} {v : Value} {xs : List Int} (hgd : o.guard = none) (s x : Operand) (ty t : TypeId)
    (ho : o.op = .call { callee := .builtin .append, args := #[s, x], argTypes := #[ty, ty] })
    (h : ON EI 1 t w v xs wr) (i : TypeInfo) (ht : P.underlying ty = some (.slice t)) (hi : P.info? t = some i) (hz : i.zero = some (.int .i64 0)) (hsize : i.size = 1) (hby : i.bytes = 8)
    (hs : a.eval s = v) (x0 : Int) (hx : a.eval x = .slice (some ⟨wr.heap.size, 0, none⟩) 1 1) (hl : xs.length ≤ 1000)
    (hk : ∀ v' w', ON EI 1 t w v' (xs ++ [x0]) w' → wpList P ops Q rest (a.put o.dst v') w') : wpList P ops Q (o :: rest) a (wr.alloc (.cells #[.int .i64 x0] t)) :=
  wpList_append_ON hgd s x ty ho ei_steady h i (.int .i64 0) 8 ht hi hz hsize hby rfl (by decide) hs x0 #[.int .i64 x0] hx rfl (by intro u hu; simp at hu; subst hu; rfl) rfl (by unfold maxLen; omega) (by omega) hk
theorem EH.things {w : World} {ok : Nat → Prop} {x : Hd} {A : Option Addr} {m c : Nat} {a b d : Value} (h : EH w ok x [a, .slice A m c, b, d]) : RN EI 1 w ok A m x.things := by
  obtain ⟨A', m', c', hv, hr, _⟩ := h
  injection hv with _ hv
  injection hv with hv _
  injection hv with e1 e2 e3
  subst e1 e2 e3
  exact hr
theorem busyP_succ {l : Tb} {k : Nat} (hk : k < l.length) (a b n : Int) : busyP (l.take (k + 1)) a b n = (busyP (l.take k) a b n || (meetsZ (l.getD k hd0).frm (l.getD k hd0).to a b && (l.getD k hd0).things.contains n)) := by
  unfold busyP
  rw [List.take_succ_eq_append_getElem hk, List.any_append, getD_at hk]
  simp
theorem take_contains {xs : List Int} {j : Nat} (hj : j < xs.length) (n : Int) : (xs.take (j + 1)).contains n = ((xs.take j).contains n || (n == xs.getD j 0)) := by
  rw [List.take_succ_eq_append_getElem hj, z_at hj, Bool.eq_iff_iff, Bool.or_eq_true, List.contains_iff_mem, List.contains_iff_mem, List.mem_append, List.mem_singleton, beq_iff_eq]
theorem busy_list {l : Tb} (hr : rightT l = true) (a b : Int) : numsF (fun i => busyP l a b (i : Int)) 256 = busyT l a b := by
  unfold busyT pickL
  rw [if_pos hr, numsF_pick _ _ (Nat.le_refl _)]
  refine right_ext (right_pickL (fun x => decide (0 ≤ x) && busyP l a b (x.toNat : Int))) (right_pickL (busyP l a b)) fun n => ?_
  show n ∈ pickL _ ↔ n ∈ pickL _
  rw [mem_pickL, mem_pickL]
  constructor
  · rintro ⟨h1, h2, h3⟩
    rw [Bool.and_eq_true, decide_eq_true_eq] at h3
    rw [Int.toNat_of_nonneg h1] at h3
    exact ⟨h1, h2, h3.2⟩
  · rintro ⟨h1, h2, h3⟩
    refine ⟨h1, h2, ?_⟩
    rw [Bool.and_eq_true, decide_eq_true_eq, Int.toNat_of_nonneg h1]
    exact ⟨h1, h3⟩

set_option maxRecDepth 100000 in
set_option maxHeartbeats 8000000 in
theorem busy_any (A : Option Addr) (n c : Nat) (l : Tb) (a b : Int) (w : World) (hr : RT w w.heap.size A n l) (hf : FewT l) (hrt : rightT l = true) :
    Calls Tryz.prog 39 #[.slice A n c, .int .i64 a, .int .i64 b] w (IPost (busyT l a b) w) := by
  obtain ⟨i0, hi0, hz0, hz1, hz2⟩ := info_parts int_info
  have HL := Lib.hid hr.len
  have HR := Lib.hid hr
  have hn : n ≤ 100 := by rw [← hr.len]; exact hf.1
  have HF := Lib.hid hf
  have HRT := Lib.hid (rightT_is.1 hrt)
  have HE := Lib.hid (busy_list hrt a b)
  rw [← HE.out]
  obtain ⟨p, hp⟩ : ∃ p : Nat → Bool, (fun i : Nat => busyP l a b (i : Int)) = p := ⟨_, rfl⟩
  have HP : Hid (∀ i : Nat, p i = busyP l a b (i : Int)) := Lib.hid (fun i => by rw [← hp])
  rw [hp]
  clear hr hf hrt hp
  go_enter Tryz.func39, Tryz.ntmps39
  go_wp2_with (with_reducible refine wpList_alloc_hmarks rfl rfl ?_; intro w2 hm; refine Hid.out ?_)
  refine Lib.hid ?_
  have HM2 := Lib.hid hm
  clear hm
  go_wp2
  go_loopw [17] (fun i wr => ∃ k : Nat, k ≤ n ∧ i = .int .i64 k ∧ HMarks w (fun i => busyP (l.take k) a b (i : Int)) wr) (fun i _ => n - (intOf i).toNat)
  case atStart => exact ⟨0, Nat.zero_le _, rfl, HM2.out.ext (fun k _ => by simp [busyP])⟩
  case round =>
    obtain ⟨k, hk, rfl, hm⟩ := hrel
    have HM := Lib.hid hm
    clear hm
    by_cases hlt : k < n
    · have hkl : k < l.length := by rw [HL.out]; exact hlt
      obtain ⟨b1, off, A2, m2, c2, rfl, hbl, c0, c1, c2', c3, hel⟩ := RT.el (HR.out.below HM.out.bel) hlt
      have hx := RN.ri (hel.things.keep ei_steady (fun b hb => (HM.out.bel.block b hb).symm) (fun _ h => h))
      have hsucc := busyP_succ hkl a b
      have hxm := HRT.out.may _ (List.getElem_mem hkl)
      rw [← getD_at hkl] at hxm
      obtain ⟨x, hxx⟩ : ∃ x, l.getD k hd0 = x := ⟨_, rfl⟩
      rw [hxx] at c0 c2' c3 hx hsucc hxm hel
      have HSU := Lib.hid hsucc
      have HXM := Lib.hid hxm
      have hm100 : m2 ≤ 100 := by have := HF.out.at hkl; rw [hxx] at this; have := hx.1; omega
      have hba : Below wr.heap.size wr (wr.alloc (hO x A2 m2 c2)) := (Below.refl _ _).alloc (Nat.le_refl _) _
      have HX : Hid (RI w w.heap.size A2 m2 x.things) := Lib.hid hx
      have HMa := Lib.hid (HM.out.next hba)
      have HBX : Hid (BoxH (wr.alloc (hO x A2 m2 c2)) wr.heap.size x A2 m2 c2) := Lib.hid (boxH_new wr x A2 m2 c2)
      unfold hO at HMa HBX
      obtain ⟨Wa, hWa⟩ : ∃ Wa, wr.alloc (.cells #[.int .i64 x.id, .slice A2 m2 c2, .int .i64 x.frm, .int .i64 x.to] 41) = Wa := ⟨_, rfl⟩
      rw [hWa] at HMa HBX
      have q2 := HBX.out.c2
      have q3 := HBX.out.c3
      clear hx hel hxx hba hbl hsucc hxm hkl HM
      cases hme : meetsZ x.frm x.to a b with
      | false =>
        have EM := Lib.hid hme
        go_wp2_with (simp only [hWa])
        clear hWa c0 c1 c2' c3
        refine (meets_any EM.out).mono ?_
        rintro e w5 ⟨rfl, hb⟩
        have HM5 := Lib.hid (HMa.out.next hb)
        clear hb q2 q3
        go_wp2
        go_roundw
        case rel => exact ⟨k + 1, by omega, by go_num, HM5.out.ext (fun i _ => by rw [HSU.out, EM.out, Bool.false_and, Bool.or_false])⟩
        case measure => simp [intOf]; omega
      | true =>
        have EM := Lib.hid hme
        go_wp2_with (simp only [hWa])
        clear hWa c0 c1 c2' c3
        refine (meets_any EM.out).mono ?_
        rintro e w5 ⟨rfl, hb⟩
        have HM5 := Lib.hid (HMa.out.next hb)
        have HBX5 := Lib.hid (HBX.out.next hb)
        clear hb q2 q3
        have q1 := HBX5.out.c1
        go_wp2
        clear q1
        go_loopw [32] (fun i wq => ∃ j : Nat, j ≤ m2 ∧ i = .int .i64 j ∧ HMarks w (fun i => busyP (l.take k) a b (i : Int) || (x.things.take j).contains (i : Int)) wq) (fun i _ => m2 - (intOf i).toNat)
        case atStart => exact ⟨0, Nat.zero_le _, rfl, HM5.out.ext (fun i _ => by simp)⟩
        case round =>
          obtain ⟨j, hj, rfl, hm⟩ := hrel
          have HMq := Lib.hid hm
          clear hm
          by_cases hltj : j < m2
          · have hjl : j < x.things.length := by rw [HX.out.1]; exact hltj
            obtain ⟨b2, o2, rfl, _, hcy⟩ := (HX.out.below HMq.out.bel).one hltj
            have hym := right_mem HXM.out.2.1 _ (z_mem hjl)
            have htc := take_contains hjl
            obtain ⟨y, hy⟩ : ∃ y, x.things.getD j 0 = y := ⟨_, rfl⟩
            rw [hy] at hcy hym htc
            obtain ⟨q, rfl⟩ : ∃ q : Nat, y = (q : Int) := ⟨y.toNat, by omega⟩
            have hq256 : q < 256 := by omega
            have hqz : (q : Int) < 256 := by omega
            have HTC := Lib.hid htc
            have ht := HMq.out.cell hq256
            have hz := HMq.out.frozen q
            have HMN : Hid (HMarks w (fun i => busyP (l.take k) a b (i : Int) || (x.things.take (j + 1)).contains (i : Int)) (wr.setCell ⟨w.heap.size, q, none⟩ (.bool true))) := Lib.hid ((HMq.out.set true).ext (fun i _ => by
              rw [HTC.out]
              by_cases e : i = q
              · subst e; rw [hmset_same]; simp
              · rw [hmset_other _ _ e, show ((i : Int) == (q : Int)) = false from beq_eq_false_iff_ne.2 (by omega), Bool.or_false]))
            clear hy hym htc hjl
            go_wp2
            go_roundw
            case rel => exact ⟨j + 1, by omega, by go_num, HMN.out⟩
            case measure => simp [intOf]; omega
          · have hjm : j = m2 := by omega
            have HFIN : Hid (HMarks w (fun i => busyP (l.take (k + 1)) a b (i : Int)) wr) := Lib.hid (HMq.out.ext (fun i _ => by rw [HSU.out, EM.out, Bool.true_and, List.take_of_length_le (l := x.things) (by rw [HX.out.1]; omega)]))
            go_wp2
            go_roundw
            case rel => exact ⟨k + 1, by omega, by go_num, HFIN.out⟩
            case measure => simp [intOf]; omega
    · have hkn : k = n := by omega
      have HM1 : Hid (HMarks w p wr) := Lib.hid (HM.out.ext (fun i _ => by rw [HP.out, List.take_of_length_le (by rw [HL.out]; omega)]))
      have HB1 := Lib.hid HM1.out.bel
      clear HM
      go_wp2_with (with_reducible refine wpList_load_hmarks rfl _ rfl HM1.out rfl ?_; refine Hid.out ?_)
      refine Lib.hid ?_
      go_wp2
      obtain ⟨wm, hwm⟩ : ∃ wm, wr = wm := ⟨_, rfl⟩
      subst hwm
      go_loopw [12, 41] (fun v i wx => ∃ k : Nat, k ≤ 256 ∧ i = .int .i64 k ∧ ON EI 1 3 wr v (numsF p k) wx) (fun _ i _ => 256 - (intOf i).toNat)
      case atStart => exact ⟨0, Nat.zero_le _, rfl, ON.nil _⟩
      case round =>
        obtain ⟨k, hk, rfl, hf⟩ := hrel
        have HO := Lib.hid hf
        clear hf
        by_cases hlt : k < 256
        · have hlen : Hid ((numsF p k).length ≤ 1000) := Lib.hid (by have := numsF_len p k; omega)
          have hix := run_ix_hmarks p hlt
          cases hp : p k with
          | true =>
            have HS := Lib.hid (numsF_yes hp)
            rw [hp] at hix
            clear hp
            go_wp2_with (at_builtin; refine append_EI rfl (.tmp 46) (.tmp 48) 23 3 rfl HO.out i0 Tryz.underlying23 hi0 hz0 hz1 hz2 rfl _ rfl hlen.out ?_; intro v' w4 hON4; refine Hid.out ?_)
            refine Lib.hid ?_
            have HO4 := Lib.hid hON4
            clear hON4 hix
            go_wp2
            go_roundw
            case rel => exact ⟨k + 1, by omega, by go_num, by rw [HS.out]; exact HO4.out⟩
            case measure => simp [intOf]; omega
          | false =>
            have HS := Lib.hid (numsF_no hp)
            rw [hp] at hix
            clear hp
            go_wp2
            go_roundw
            case rel => exact ⟨k + 1, by omega, by go_num, by rw [HS.out]; exact HO.out⟩
            case measure => simp [intOf]; omega
        · have hkn : k = 256 := by omega
          subst hkn
          go_wp2
          go_ret
          exact HO.out.ipost.trans HB1.out

end Go.Proofs.YtchogijdkagiiaaGreatDoor

namespace Go.Proofs.YtchogijdkagiiaaGreatDoor
open Go.RowKit

theorem keep_cellH {w wx : World} {p : Addr} {v : Value} (hl : p.block < w.heap.size) (h : w.cell? p = some v) (hb : Below w.heap.size w wx) : wx.cell? p = some v := (hb.cell hl).trans h
theorem bel_drewH (w : World) : Below w.heap.size w w.drew := bel_drew w 1
/-- a row of holdings of one's own, carried from world to world -/
def ONH (w : World) (v : Value) (l : Tb) (wr : World) : Prop := ON EH 4 41 w v l wr
theorem ONH.next {w wr w1 : World} {v : Value} {l : Tb} (h : ONH w v l wr) (hb : Below wr.heap.size wr w1) : ONH w v l w1 := ON.next eh_steady h hb
theorem onh_post {W w wr : World} {A : Option Addr} {n c : Nat} {l : Tb} {er : Int} (h : ONH W (.slice A n c) l wr) (hb : Below w.heap.size w wr) : TEPost l er w (.returned (.tuple #[.slice A n c, .int .i64 er])) wr := by
  obtain ⟨A', c', e, h1, h2⟩ := ON.form h
  injection e with e1 e2 e3
  subst e1 e2 e3
  exact tepost_mk (ON.reads eh_steady (by omega) h rfl) h1 h2 hb
set_option maxHeartbeats 4000000 in
set_option maxRecDepth 100000 in
/-- into no row at all -/
theorem insertH_none {base vb : Nat} {v0 v1 v2 v3 : Value} {w : World} (hb : base ≤ w.heap.size)
    (hv : w.heap[vb]? = some (.cells #[v0, v1, v2, v3] 41 (0, 0))) (h4 : ∀ u ∈ ([v0, v1, v2, v3] : List Value), u.oneCell' = true) :
    Calls Tryz.prog 43 #[.slice none 0 0, .int .i64 0, .slice (some ⟨vb, 0, none⟩) 1 1] w (InsQ base 1 [v0, v1, v2, v3] (.slice none 0 0) w) := by
  obtain ⟨i0, hi0, hz0, hz1, hz2⟩ : ∃ i, Tryz.prog.info? 41 = some i ∧ i.zero = some (.agg #[.int .i64 0, .slice none 0 0, .int .i64 0, .int .i64 0]) ∧ i.size = 4 ∧ i.bytes = 48 := info_parts held_info
  have HO : Hid (w.ownsRow base 41 4 (.slice none 0 0) 0 []) := Lib.hid (by simpa using World.ownsRow_nil w base 41 4)
  have HV := Lib.hid hv
  have H4 := Lib.hid h4
  have HBB := Lib.hid hb
  clear hv h4 hb
  go_enter Tryz.func43, Tryz.ntmps43
  go_wp2_with (at_builtin; refine wpList_append_lies _ rfl _ _ 24 rfl base 41 i0 (.agg #[.int .i64 0, .slice none 0 0, .int .i64 0, .int .i64 0]) 4 48 Tryz.underlying24 hi0 hz0 hz1 hz2 rfl (by decide) (.slice none 0 0) 0 _ rfl HO.out ⟨vb, 0, none⟩ 1 1 [v0, v1, v2, v3] rfl rfl (World.news_of_block HV.out) H4.out (by omega) (by unfold maxLen; omega) (by omega) HBB.out _ rfl ?_; intro g' cap' w1 hown' hgrow hat _; refine Hid.out ?_)
  all_goals refine Lib.hid ?_
  all_goals have R := Lib.hid hown'
  all_goals have HB : Hid (Below base w w1) := Lib.hid ((Below.refl _ _).grown hgrow HBB.out (fun k hk => by cases hk))
  all_goals have HK : Hid (Keeps w (.slice none 0 0) w1 (.slice (some ⟨g', 0, none⟩) 1 cap')) := Lib.hid ⟨fun b hb hne => hgrow.block b hb (fun e => hne e.symm), hgrow.size, hat.imp (fun e => e.symm) (fun e b hb => by
      have hb' : g' = b := by simpa [Value.ownBlock] using hb
      rw [← hb', e]; exact Nat.le_refl _)⟩
  all_goals clear hown' hgrow hat
  all_goals go_wp2
  all_goals go_ret
  all_goals exact ⟨_, rfl, R.out, HB.out, HK.out⟩
theorem insertH_all (base i vb n : Nat) (A : Option Addr) (c : Nat) (fl : List Value) (v0 v1 v2 v3 : Value) (w : World) (hi : i ≤ n) (hn : n ≤ 3000) (hb : base ≤ w.heap.size) (hown : w.ownsRow base 41 4 (.slice A n c) n fl) (h1c : ∀ u ∈ fl, u.oneCell' = true)
    (hv : w.heap[vb]? = some (.cells #[v0, v1, v2, v3] 41 (0, 0))) (h41 : ∀ u ∈ ([v0, v1, v2, v3] : List Value), u.oneCell' = true) (hne : ∀ g, A = some ⟨g, 0, none⟩ → vb ≠ g) :
    Calls Tryz.prog 43 #[.slice A n c, .int .i64 i, .slice (some ⟨vb, 0, none⟩) 1 1] w (InsQ base (n + 1) (fl.take (i * 4) ++ ([v0, v1, v2, v3] ++ fl.drop (i * 4))) (.slice A n c) w) := by
  rcases Nat.eq_zero_or_pos n with h0 | h0
  · subst h0
    obtain rfl : i = 0 := by omega
    have hfl : fl = [] := List.eq_nil_of_length_eq_zero (by have := hown.1; omega)
    subst hfl
    rcases id hown.2 with ⟨e, _⟩ | ⟨g, cap, cur, e, _⟩
    · injection e with e1 _ e3
      subst e1 e3
      exact insertH_none hb hv h41
    · injection e with e1 _ e3
      subst e1 e3
      exact insertH_end (fl := []) (by omega) hown hv h41
  · exact insertH_any base i vb n A c fl v0 v1 v2 v3 w h0 hi hn hown h1c hv h41 hne
theorem four_one (h : Hd) (A : Option Addr) (m c : Nat) : ∀ u ∈ ([.int .i64 h.id, .slice A m c, .int .i64 h.frm, .int .i64 h.to] : List Value), u.oneCell' = true := by
  intro u hu
  simp at hu
  rcases hu with rfl | rfl | rfl | rfl <;> rfl
/-- a holding more in a table of one's own -/
theorem insertH_on {W wr : World} {A : Option Addr} {n c K : Nat} {l : Tb} {h : Hd} {A5 : Option Addr} {m c5 : Nat} (hO : ONH W (.slice A n c) l wr) (hn : n ≤ 3000) (hln : l.length = n) (hK : K ≤ n) (hh : EH wr (fun b => b < wr.heap.size ∧ (Value.slice A n c).ownBlock ≠ some b) h [.int .i64 h.id, .slice A5 m c5, .int .i64 h.frm, .int .i64 h.to]) :
    Calls Tryz.prog 43 #[.slice A n c, .int .i64 K, .slice (some ⟨wr.heap.size, 0, none⟩) 1 1] (wr.alloc (.cells #[.int .i64 h.id, .slice A5 m c5, .int .i64 h.frm, .int .i64 h.to] 41)) fun e w' => ∃ v', e = .returned v' ∧ ONH W v' (l.take K ++ h :: l.drop K) w' := by
  have hba : Below wr.heap.size wr (wr.alloc (.cells #[.int .i64 h.id, .slice A5 m c5, .int .i64 h.frm, .int .i64 h.to] 41)) := (Below.refl _ _).alloc (Nat.le_refl _) _
  have hO1 := hO.next hba
  obtain ⟨fl, f1, f2, f3⟩ := id hO1
  have hfl := f1.1
  have hWs : W.heap.size ≤ wr.heap.size := (ON.below hO).size
  rw [hln] at f1
  refine (insertH_all W.heap.size K wr.heap.size n A c fl _ _ _ _ _ hK hn (by simp; omega) f1 (flat_one hfl f3) (heap_alloc_new wr _) (four_one h A5 m c5) (fun g e => ?_)).mono ?_
  · subst e
    obtain ⟨_, h1, _⟩ := id hO
    have := (h1.lt g rfl).2
    omega
  · rintro e w7 ⟨v', rfl, h1, h2, h3⟩
    refine ⟨v', rfl, ins_on f2 h1 h2 h3 (by simp [hln]; omega) (ins_cells (ok := fun b => b < (wr.alloc (.cells #[.int .i64 h.id, .slice A5 m c5, .int .i64 h.frm, .int .i64 h.to] 41)).heap.size ∧ (Value.slice A n c).ownBlock ≠ some b) hfl (by omega) f3 (eh_steady.keep hh (fun b hb => hba.block b hb.1) (fun b hb => ⟨Nat.lt_of_lt_of_le hb.1 hba.size, hb.2⟩)))⟩
theorem busyT_len (l : Tb) (a b : Int) : (busyT l a b).length ≤ 256 := by
  unfold busyT
  split
  · exact length_pickL _
  · exact Nat.zero_le _
theorem apart_comm (a b : List Int) : apartB a b = apartB b a := by
  unfold apartB
  rw [Bool.eq_iff_iff]
  simp only [Bool.and_eq_true, List.all_eq_true, Bool.not_eq_true', ← Bool.not_eq_true, List.contains_iff_mem]
  exact ⟨fun ⟨⟨h1, h2⟩, h3⟩ => ⟨⟨h2, h1⟩, fun n hn hm => h3 n hm hn⟩, fun ⟨⟨h1, h2⟩, h3⟩ => ⟨⟨h2, h1⟩, fun n hn hm => h3 n hm hn⟩⟩

set_option maxRecDepth 100000 in
set_option maxHeartbeats 8000000 in
theorem heldAdd_1 (A : Option Addr) (n c : Nat) (l : Tb) (A2 : Option Addr) (m c2 : Nat) (h : Hd) (w : World) (hl : TAsk w A n c l) (hf : FewT l) (hh : HAsk w A2 m c2 h) (_ : m ≤ 100) (h1 : rightT l = false) :
    Calls Tryz.prog 22 #[.slice A n c, .agg #[.int .i64 h.id, .slice A2 m c2, .int .i64 h.frm, .int .i64 h.to]] w (TEPost l 1 w) := by
  obtain ⟨W, hW⟩ : ∃ W, W = w.alloc (hO h A2 m c2) := ⟨_, rfl⟩
  have BX : Hid (BoxH W w.heap.size h A2 m c2) := Lib.hid (by rw [hW]; exact boxH_new w h A2 m c2)
  have hb0 : Below w.heap.size w W := by rw [hW]; exact (Below.refl _ _).alloc (Nat.le_refl _) _
  have HB := Lib.hid hb0
  have HB0 := Lib.hid hb0
  have HT := Lib.hid (hl.next hb0)
  have HH := Lib.hid (hh.next hb0)
  have HF := Lib.hid hf
  have HLN := Lib.hid hl.reads.len
  have hn100 : n ≤ 100 := by rw [← hl.reads.len]; exact hf.1
  have R1 := Lib.hid h1
  clear h1
  unfold hO at hW
  clear hb0 hl hh hf
  have q0 := BX.out.c0
  have q1 := BX.out.c1
  have q2 := BX.out.c2
  have q3 := BX.out.c3
  go_enter Tryz.func22, Tryz.ntmps22
  go_wp2_with fail
  rw [← hW]
  refine (heldSame_any A n c l W HT.out.reads HT.out.nil HF.out).mono ?_
  rintro e w1 ⟨v, rfl, hon⟩
  have hb := hon.below
  obtain ⟨A1, c1, rfl, hz1, hz2⟩ := hon.form
  rw [HLN.out] at hon ⊢
  clear hz1 hz2
  replace HB := Lib.hid (HB.out.trans (hb.mono HB.out.size))
  replace HT := Lib.hid (HT.out.next hb)
  replace HH := Lib.hid (HH.out.next hb)
  replace BX := Lib.hid (BX.out.next hb)
  clear hb
  have HO := Lib.hid (show ONH W _ l w1 from hon)
  clear hon
  clear hW
  clear q0 q1 q2 q3
  have q0 := BX.out.c0
  have q1 := BX.out.c1
  have q2 := BX.out.c2
  have q3 := BX.out.c3
  go_wp2_with fail
  refine (heldRight_b HT.out.reads HT.out.nil HF.out R1.out).mono ?_
  rintro e w2 ⟨rfl, hb⟩
  replace HB := Lib.hid (HB.out.trans (hb.mono HB.out.size))
  replace HT := Lib.hid (HT.out.next hb)
  replace HH := Lib.hid (HH.out.next hb)
  replace BX := Lib.hid (BX.out.next hb)
  replace HO := Lib.hid (HO.out.next hb)
  clear hb
  clear q0 q1 q2 q3
  have q0 := BX.out.c0
  have q1 := BX.out.c1
  have q2 := BX.out.c2
  have q3 := BX.out.c3
  go_wp2
  go_ret2
  exact onh_post HO.out HB.out

set_option maxRecDepth 100000 in
set_option maxHeartbeats 8000000 in
theorem heldAdd_2 (A : Option Addr) (n c : Nat) (l : Tb) (A2 : Option Addr) (m c2 : Nat) (h : Hd) (w : World) (hl : TAsk w A n c l) (hf : FewT l) (hh : HAsk w A2 m c2 h) (_ : m ≤ 100) (h1 : rightT l = true) (h2 : mayH h = false) :
    Calls Tryz.prog 22 #[.slice A n c, .agg #[.int .i64 h.id, .slice A2 m c2, .int .i64 h.frm, .int .i64 h.to]] w (TEPost l 1 w) := by
  obtain ⟨W, hW⟩ : ∃ W, W = w.alloc (hO h A2 m c2) := ⟨_, rfl⟩
  have BX : Hid (BoxH W w.heap.size h A2 m c2) := Lib.hid (by rw [hW]; exact boxH_new w h A2 m c2)
  have hb0 : Below w.heap.size w W := by rw [hW]; exact (Below.refl _ _).alloc (Nat.le_refl _) _
  have HB := Lib.hid hb0
  have HB0 := Lib.hid hb0
  have HT := Lib.hid (hl.next hb0)
  have HH := Lib.hid (hh.next hb0)
  have HF := Lib.hid hf
  have HLN := Lib.hid hl.reads.len
  have hn100 : n ≤ 100 := by rw [← hl.reads.len]; exact hf.1
  have R1 := Lib.hid h1
  have M1 := Lib.hid h2
  clear h1 h2
  unfold hO at hW
  clear hb0 hl hh hf
  have q0 := BX.out.c0
  have q1 := BX.out.c1
  have q2 := BX.out.c2
  have q3 := BX.out.c3
  go_enter Tryz.func22, Tryz.ntmps22
  go_wp2_with fail
  rw [← hW]
  refine (heldSame_any A n c l W HT.out.reads HT.out.nil HF.out).mono ?_
  rintro e w1 ⟨v, rfl, hon⟩
  have hb := hon.below
  obtain ⟨A1, c1, rfl, hz1, hz2⟩ := hon.form
  rw [HLN.out] at hon ⊢
  clear hz1 hz2
  replace HB := Lib.hid (HB.out.trans (hb.mono HB.out.size))
  replace HT := Lib.hid (HT.out.next hb)
  replace HH := Lib.hid (HH.out.next hb)
  replace BX := Lib.hid (BX.out.next hb)
  clear hb
  have HO := Lib.hid (show ONH W _ l w1 from hon)
  clear hon
  clear hW
  clear q0 q1 q2 q3
  have q0 := BX.out.c0
  have q1 := BX.out.c1
  have q2 := BX.out.c2
  have q3 := BX.out.c3
  go_wp2_with fail
  refine (heldRight_b HT.out.reads HT.out.nil HF.out R1.out).mono ?_
  rintro e w2 ⟨rfl, hb⟩
  replace HB := Lib.hid (HB.out.trans (hb.mono HB.out.size))
  replace HT := Lib.hid (HT.out.next hb)
  replace HH := Lib.hid (HH.out.next hb)
  replace BX := Lib.hid (BX.out.next hb)
  replace HO := Lib.hid (HO.out.next hb)
  clear hb
  clear q0 q1 q2 q3
  have q0 := BX.out.c0
  have q1 := BX.out.c1
  have q2 := BX.out.c2
  have q3 := BX.out.c3
  go_wp2_with fail
  refine (may_any HH.out M1.out).mono ?_
  rintro e w3 ⟨rfl, hb⟩
  replace HB := Lib.hid (HB.out.trans (hb.mono HB.out.size))
  replace HT := Lib.hid (HT.out.next hb)
  replace HH := Lib.hid (HH.out.next hb)
  replace BX := Lib.hid (BX.out.next hb)
  replace HO := Lib.hid (HO.out.next hb)
  clear hb
  clear q0 q1 q2 q3
  have q0 := BX.out.c0
  have q1 := BX.out.c1
  have q2 := BX.out.c2
  have q3 := BX.out.c3
  go_wp2
  go_ret2
  exact onh_post HO.out HB.out

set_option maxRecDepth 100000 in
set_option maxHeartbeats 8000000 in
theorem heldAdd_3 (A : Option Addr) (n c : Nat) (l : Tb) (A2 : Option Addr) (m c2 : Nat) (h : Hd) (w : World) (hl : TAsk w A n c l) (hf : FewT l) (hh : HAsk w A2 m c2 h) (_ : m ≤ 100) (h1 : rightT l = true) (h2 : mayH h = true) (h3 : hasT l h.id = true) :
    Calls Tryz.prog 22 #[.slice A n c, .agg #[.int .i64 h.id, .slice A2 m c2, .int .i64 h.frm, .int .i64 h.to]] w (TEPost l 7 w) := by
  obtain ⟨W, hW⟩ : ∃ W, W = w.alloc (hO h A2 m c2) := ⟨_, rfl⟩
  have BX : Hid (BoxH W w.heap.size h A2 m c2) := Lib.hid (by rw [hW]; exact boxH_new w h A2 m c2)
  have hb0 : Below w.heap.size w W := by rw [hW]; exact (Below.refl _ _).alloc (Nat.le_refl _) _
  have HB := Lib.hid hb0
  have HB0 := Lib.hid hb0
  have HT := Lib.hid (hl.next hb0)
  have HH := Lib.hid (hh.next hb0)
  have HF := Lib.hid hf
  have HLN := Lib.hid hl.reads.len
  have hn100 : n ≤ 100 := by rw [← hl.reads.len]; exact hf.1
  have R1 := Lib.hid h1
  have M1 := Lib.hid h2
  have HHAS := Lib.hid h3
  have HIDS := Lib.hid (rightT_is.1 h1).ids
  clear h1 h2 h3
  unfold hO at hW
  clear hb0 hl hh hf
  have q0 := BX.out.c0
  have q1 := BX.out.c1
  have q2 := BX.out.c2
  have q3 := BX.out.c3
  go_enter Tryz.func22, Tryz.ntmps22
  go_wp2_with fail
  rw [← hW]
  refine (heldSame_any A n c l W HT.out.reads HT.out.nil HF.out).mono ?_
  rintro e w1 ⟨v, rfl, hon⟩
  have hb := hon.below
  obtain ⟨A1, c1, rfl, hz1, hz2⟩ := hon.form
  rw [HLN.out] at hon ⊢
  clear hz1 hz2
  replace HB := Lib.hid (HB.out.trans (hb.mono HB.out.size))
  replace HT := Lib.hid (HT.out.next hb)
  replace HH := Lib.hid (HH.out.next hb)
  replace BX := Lib.hid (BX.out.next hb)
  clear hb
  have HO := Lib.hid (show ONH W _ l w1 from hon)
  clear hon
  clear hW
  clear q0 q1 q2 q3
  have q0 := BX.out.c0
  have q1 := BX.out.c1
  have q2 := BX.out.c2
  have q3 := BX.out.c3
  go_wp2_with fail
  refine (heldRight_b HT.out.reads HT.out.nil HF.out R1.out).mono ?_
  rintro e w2 ⟨rfl, hb⟩
  replace HB := Lib.hid (HB.out.trans (hb.mono HB.out.size))
  replace HT := Lib.hid (HT.out.next hb)
  replace HH := Lib.hid (HH.out.next hb)
  replace BX := Lib.hid (BX.out.next hb)
  replace HO := Lib.hid (HO.out.next hb)
  clear hb
  clear q0 q1 q2 q3
  have q0 := BX.out.c0
  have q1 := BX.out.c1
  have q2 := BX.out.c2
  have q3 := BX.out.c3
  go_wp2_with fail
  refine (may_any HH.out M1.out).mono ?_
  rintro e w3 ⟨rfl, hb⟩
  replace HB := Lib.hid (HB.out.trans (hb.mono HB.out.size))
  replace HT := Lib.hid (HT.out.next hb)
  replace HH := Lib.hid (HH.out.next hb)
  replace BX := Lib.hid (BX.out.next hb)
  replace HO := Lib.hid (HO.out.next hb)
  clear hb
  clear q0 q1 q2 q3
  have q0 := BX.out.c0
  have q1 := BX.out.c1
  have q2 := BX.out.c2
  have q3 := BX.out.c3
  go_wp2_with fail
  refine (hfind_any A n c l h.id _ HT.out.reads (by omega) HIDS.out).mono ?_
  rintro e w4 ⟨⟨K, rfl, hK⟩, hb⟩
  have HK := Lib.hid hK
  have HKN : Hid (K ≤ n) := Lib.hid (by rw [← HLN.out]; exact hK.le)
  rw [here_has HIDS.out hK, HHAS.out]
  clear hK
  replace HB := Lib.hid (HB.out.trans (hb.mono HB.out.size))
  replace HT := Lib.hid (HT.out.next hb)
  replace HH := Lib.hid (HH.out.next hb)
  replace BX := Lib.hid (BX.out.next hb)
  replace HO := Lib.hid (HO.out.next hb)
  clear hb
  clear q0 q1 q2 q3
  have q0 := BX.out.c0
  have q1 := BX.out.c1
  have q2 := BX.out.c2
  have q3 := BX.out.c3
  go_wp2
  go_ret2
  exact onh_post HO.out HB.out

set_option maxRecDepth 100000 in
set_option maxHeartbeats 8000000 in
theorem heldAdd_4 (A : Option Addr) (n c : Nat) (l : Tb) (A2 : Option Addr) (m c2 : Nat) (h : Hd) (w : World) (hl : TAsk w A n c l) (hf : FewT l) (hh : HAsk w A2 m c2 h) (hm : m ≤ 100) (h1 : rightT l = true) (h2 : mayH h = true) (h3 : hasT l h.id = false) (h4 : apartB h.things (busyT l h.frm h.to) = false) :
    Calls Tryz.prog 22 #[.slice A n c, .agg #[.int .i64 h.id, .slice A2 m c2, .int .i64 h.frm, .int .i64 h.to]] w (TEPost l 5 w) := by
  obtain ⟨W, hW⟩ : ∃ W, W = w.alloc (hO h A2 m c2) := ⟨_, rfl⟩
  have BX : Hid (BoxH W w.heap.size h A2 m c2) := Lib.hid (by rw [hW]; exact boxH_new w h A2 m c2)
  have hb0 : Below w.heap.size w W := by rw [hW]; exact (Below.refl _ _).alloc (Nat.le_refl _) _
  have HB := Lib.hid hb0
  have HB0 := Lib.hid hb0
  have HT := Lib.hid (hl.next hb0)
  have HH := Lib.hid (hh.next hb0)
  have HF := Lib.hid hf
  have HLN := Lib.hid hl.reads.len
  have hn100 : n ≤ 100 := by rw [← hl.reads.len]; exact hf.1
  have R1 := Lib.hid h1
  have M1 := Lib.hid h2
  have HHAS := Lib.hid h3
  have HIDS := Lib.hid (rightT_is.1 h1).ids
  have HBN : Hid ((busyT l h.frm h.to).length ≤ maxLen) := Lib.hid (by have := busyT_len l h.frm h.to; unfold maxLen; omega)
  have HAP : Hid (apartB h.things (busyT l h.frm h.to) = false) := Lib.hid h4
  have d256 : (n == 256) = false := beq_eq_false_iff_ne.2 (by omega)
  have d256' : ((n : Int) == 256) = false := beq_eq_false_iff_ne.2 (by omega)
  have HMM := Lib.hid hm
  clear h1 h2 h3 h4
  unfold hO at hW
  clear hb0 hl hh hf
  have q0 := BX.out.c0
  have q1 := BX.out.c1
  have q2 := BX.out.c2
  have q3 := BX.out.c3
  go_enter Tryz.func22, Tryz.ntmps22
  go_wp2_with fail
  rw [← hW]
  refine (heldSame_any A n c l W HT.out.reads HT.out.nil HF.out).mono ?_
  rintro e w1 ⟨v, rfl, hon⟩
  have hb := hon.below
  obtain ⟨A1, c1, rfl, hz1, hz2⟩ := hon.form
  rw [HLN.out] at hon ⊢
  clear hz1 hz2
  replace HB := Lib.hid (HB.out.trans (hb.mono HB.out.size))
  replace HT := Lib.hid (HT.out.next hb)
  replace HH := Lib.hid (HH.out.next hb)
  replace BX := Lib.hid (BX.out.next hb)
  clear hb
  have HO := Lib.hid (show ONH W _ l w1 from hon)
  clear hon
  clear hW
  clear q0 q1 q2 q3
  have q0 := BX.out.c0
  have q1 := BX.out.c1
  have q2 := BX.out.c2
  have q3 := BX.out.c3
  go_wp2_with fail
  refine (heldRight_b HT.out.reads HT.out.nil HF.out R1.out).mono ?_
  rintro e w2 ⟨rfl, hb⟩
  replace HB := Lib.hid (HB.out.trans (hb.mono HB.out.size))
  replace HT := Lib.hid (HT.out.next hb)
  replace HH := Lib.hid (HH.out.next hb)
  replace BX := Lib.hid (BX.out.next hb)
  replace HO := Lib.hid (HO.out.next hb)
  clear hb
  clear q0 q1 q2 q3
  have q0 := BX.out.c0
  have q1 := BX.out.c1
  have q2 := BX.out.c2
  have q3 := BX.out.c3
  go_wp2_with fail
  refine (may_any HH.out M1.out).mono ?_
  rintro e w3 ⟨rfl, hb⟩
  replace HB := Lib.hid (HB.out.trans (hb.mono HB.out.size))
  replace HT := Lib.hid (HT.out.next hb)
  replace HH := Lib.hid (HH.out.next hb)
  replace BX := Lib.hid (BX.out.next hb)
  replace HO := Lib.hid (HO.out.next hb)
  clear hb
  clear q0 q1 q2 q3
  have q0 := BX.out.c0
  have q1 := BX.out.c1
  have q2 := BX.out.c2
  have q3 := BX.out.c3
  go_wp2_with fail
  refine (hfind_any A n c l h.id _ HT.out.reads (by omega) HIDS.out).mono ?_
  rintro e w4 ⟨⟨K, rfl, hK⟩, hb⟩
  have HK := Lib.hid hK
  have HKN : Hid (K ≤ n) := Lib.hid (by rw [← HLN.out]; exact hK.le)
  rw [here_has HIDS.out hK, HHAS.out]
  clear hK
  replace HB := Lib.hid (HB.out.trans (hb.mono HB.out.size))
  replace HT := Lib.hid (HT.out.next hb)
  replace HH := Lib.hid (HH.out.next hb)
  replace BX := Lib.hid (BX.out.next hb)
  replace HO := Lib.hid (HO.out.next hb)
  clear hb
  clear q0 q1 q2 q3
  have q0 := BX.out.c0
  have q1 := BX.out.c1
  have q2 := BX.out.c2
  have q3 := BX.out.c3
  go_wp2
  have HKEEP : Hid (∀ wx, Below w4.drew.heap.size w4.drew wx → wx.cell? ⟨w.heap.size, 1, none⟩ = some (.slice A2 m c2) ∧ wx.cell? ⟨w.heap.size, 2, none⟩ = some (.int .i64 h.frm) ∧ wx.cell? ⟨w.heap.size, 3, none⟩ = some (.int .i64 h.to)) := Lib.hid (fun wx hz' => by
    have hz := (bel_drewH w4).trans (hz'.mono (bel_drewH w4).size)
    exact ⟨keep_cellH BX.out.lt BX.out.c1 hz, keep_cellH BX.out.lt BX.out.c2 hz, keep_cellH BX.out.lt BX.out.c3 hz⟩)
  have hd := bel_drewH w4
  replace HB := Lib.hid (HB.out.trans (hd.mono HB.out.size))
  replace HT := Lib.hid (HT.out.next hd)
  replace HH := Lib.hid (HH.out.next hd)
  replace BX := Lib.hid (BX.out.next hd)
  replace HO := Lib.hid (HO.out.next hd)
  clear hd
  have HY := Lib.hid (Below.refl w4.drew.heap.size w4.drew)
  go_region_held3 (fun w' => w'.cell? ⟨w.heap.size, 1, none⟩ = some (.slice A2 m c2) ∧ w'.cell? ⟨w.heap.size, 2, none⟩ = some (.int .i64 h.frm) ∧ w'.cell? ⟨w.heap.size, 3, none⟩ = some (.int .i64 h.to))
    (first | exact HKEEP.out _ (Below.refl _ _) | exact HKEEP.out _ HY.out | go_keep | fail)
    (first | (go_at_call 39; (with_reducible refine (busy_any A n c l h.frm h.to w4.drew HT.out.reads HF.out R1.out).mono ?_); rintro e w5 ⟨⟨Ab, cb, rfl, hrb, _, _⟩, hb⟩; have HY := Lib.hid (HY.out.trans (hb.mono HY.out.size)); have HB := Lib.hid (HB.out.trans (hb.mono HB.out.size)); have HT := Lib.hid (HT.out.next hb); have HH := Lib.hid (HH.out.next hb); have BX := Lib.hid (BX.out.next hb); have HO := Lib.hid (HO.out.next hb); have HBS := Lib.hid hrb; clear hb) | (go_at_call 20; (with_reducible refine (s_apart HH.out.reads HBS.out HH.out.few HBN.out HAP.out).mono ?_); rintro e w6 ⟨rfl, hb⟩; have HY := Lib.hid (HY.out.trans (hb.mono HY.out.size)); have HB := Lib.hid (HB.out.trans (hb.mono HB.out.size)); have HT := Lib.hid (HT.out.next hb); have HH := Lib.hid (HH.out.next hb); have BX := Lib.hid (BX.out.next hb); have HO := Lib.hid (HO.out.next hb); have HBS := Lib.hid (HBS.out.next hb); clear hb) | fail)
  clear HKEEP HY
  clear q0 q1 q2 q3
  go_wp2
  go_ret2
  exact onh_post HO.out HB.out

set_option maxRecDepth 100000 in
set_option maxHeartbeats 8000000 in
theorem heldAdd_5 (A : Option Addr) (n c : Nat) (l : Tb) (A2 : Option Addr) (m c2 : Nat) (h : Hd) (w : World) (hl : TAsk w A n c l) (hf : FewT l) (hh : HAsk w A2 m c2 h) (hm : m ≤ 100) (h1 : rightT l = true) (h2 : mayH h = true) (h3 : hasT l h.id = false) (h4 : apartB h.things (busyT l h.frm h.to) = true) :
    Calls Tryz.prog 22 #[.slice A n c, .agg #[.int .i64 h.id, .slice A2 m c2, .int .i64 h.frm, .int .i64 h.to]] w (TEPost (insT l h) 0 w) := by
  obtain ⟨W, hW⟩ : ∃ W, W = w.alloc (hO h A2 m c2) := ⟨_, rfl⟩
  have BX : Hid (BoxH W w.heap.size h A2 m c2) := Lib.hid (by rw [hW]; exact boxH_new w h A2 m c2)
  have hb0 : Below w.heap.size w W := by rw [hW]; exact (Below.refl _ _).alloc (Nat.le_refl _) _
  have HB := Lib.hid hb0
  have HB0 := Lib.hid hb0
  have HT := Lib.hid (hl.next hb0)
  have HH := Lib.hid (hh.next hb0)
  have HF := Lib.hid hf
  have HLN := Lib.hid hl.reads.len
  have hn100 : n ≤ 100 := by rw [← hl.reads.len]; exact hf.1
  have R1 := Lib.hid h1
  have M1 := Lib.hid h2
  have HHAS := Lib.hid h3
  have HIDS := Lib.hid (rightT_is.1 h1).ids
  have HBN : Hid ((busyT l h.frm h.to).length ≤ maxLen) := Lib.hid (by have := busyT_len l h.frm h.to; unfold maxLen; omega)
  have HAP : Hid (apartB h.things (busyT l h.frm h.to) = true) := Lib.hid h4
  have d256 : (n == 256) = false := beq_eq_false_iff_ne.2 (by omega)
  have d256' : ((n : Int) == 256) = false := beq_eq_false_iff_ne.2 (by omega)
  have HMM := Lib.hid hm
  clear h1 h2 h3 h4
  unfold hO at hW
  clear hb0 hl hh hf
  have q0 := BX.out.c0
  have q1 := BX.out.c1
  have q2 := BX.out.c2
  have q3 := BX.out.c3
  go_enter Tryz.func22, Tryz.ntmps22
  go_wp2_with fail
  rw [← hW]
  refine (heldSame_any A n c l W HT.out.reads HT.out.nil HF.out).mono ?_
  rintro e w1 ⟨v, rfl, hon⟩
  have hb := hon.below
  obtain ⟨A1, c1, rfl, hz1, hz2⟩ := hon.form
  rw [HLN.out] at hon ⊢
  clear hz1 hz2
  replace HB := Lib.hid (HB.out.trans (hb.mono HB.out.size))
  replace HT := Lib.hid (HT.out.next hb)
  replace HH := Lib.hid (HH.out.next hb)
  replace BX := Lib.hid (BX.out.next hb)
  clear hb
  have HO := Lib.hid (show ONH W _ l w1 from hon)
  clear hon
  clear hW
  clear q0 q1 q2 q3
  have q0 := BX.out.c0
  have q1 := BX.out.c1
  have q2 := BX.out.c2
  have q3 := BX.out.c3
  go_wp2_with fail
  refine (heldRight_b HT.out.reads HT.out.nil HF.out R1.out).mono ?_
  rintro e w2 ⟨rfl, hb⟩
  replace HB := Lib.hid (HB.out.trans (hb.mono HB.out.size))
  replace HT := Lib.hid (HT.out.next hb)
  replace HH := Lib.hid (HH.out.next hb)
  replace BX := Lib.hid (BX.out.next hb)
  replace HO := Lib.hid (HO.out.next hb)
  clear hb
  clear q0 q1 q2 q3
  have q0 := BX.out.c0
  have q1 := BX.out.c1
  have q2 := BX.out.c2
  have q3 := BX.out.c3
  go_wp2_with fail
  refine (may_any HH.out M1.out).mono ?_
  rintro e w3 ⟨rfl, hb⟩
  replace HB := Lib.hid (HB.out.trans (hb.mono HB.out.size))
  replace HT := Lib.hid (HT.out.next hb)
  replace HH := Lib.hid (HH.out.next hb)
  replace BX := Lib.hid (BX.out.next hb)
  replace HO := Lib.hid (HO.out.next hb)
  clear hb
  clear q0 q1 q2 q3
  have q0 := BX.out.c0
  have q1 := BX.out.c1
  have q2 := BX.out.c2
  have q3 := BX.out.c3
  go_wp2_with fail
  refine (hfind_any A n c l h.id _ HT.out.reads (by omega) HIDS.out).mono ?_
  rintro e w4 ⟨⟨K, rfl, hK⟩, hb⟩
  have HK := Lib.hid hK
  have HKN : Hid (K ≤ n) := Lib.hid (by rw [← HLN.out]; exact hK.le)
  rw [here_has HIDS.out hK, HHAS.out]
  clear hK
  replace HB := Lib.hid (HB.out.trans (hb.mono HB.out.size))
  replace HT := Lib.hid (HT.out.next hb)
  replace HH := Lib.hid (HH.out.next hb)
  replace BX := Lib.hid (BX.out.next hb)
  replace HO := Lib.hid (HO.out.next hb)
  clear hb
  clear q0 q1 q2 q3
  have q0 := BX.out.c0
  have q1 := BX.out.c1
  have q2 := BX.out.c2
  have q3 := BX.out.c3
  go_wp2
  have HKEEP : Hid (∀ wx, Below w4.drew.heap.size w4.drew wx → wx.cell? ⟨w.heap.size, 1, none⟩ = some (.slice A2 m c2) ∧ wx.cell? ⟨w.heap.size, 2, none⟩ = some (.int .i64 h.frm) ∧ wx.cell? ⟨w.heap.size, 3, none⟩ = some (.int .i64 h.to)) := Lib.hid (fun wx hz' => by
    have hz := (bel_drewH w4).trans (hz'.mono (bel_drewH w4).size)
    exact ⟨keep_cellH BX.out.lt BX.out.c1 hz, keep_cellH BX.out.lt BX.out.c2 hz, keep_cellH BX.out.lt BX.out.c3 hz⟩)
  have hd := bel_drewH w4
  replace HB := Lib.hid (HB.out.trans (hd.mono HB.out.size))
  replace HT := Lib.hid (HT.out.next hd)
  replace HH := Lib.hid (HH.out.next hd)
  replace BX := Lib.hid (BX.out.next hd)
  replace HO := Lib.hid (HO.out.next hd)
  clear hd
  have HY := Lib.hid (Below.refl w4.drew.heap.size w4.drew)
  go_region_held3 (fun w' => w'.cell? ⟨w.heap.size, 1, none⟩ = some (.slice A2 m c2) ∧ w'.cell? ⟨w.heap.size, 2, none⟩ = some (.int .i64 h.frm) ∧ w'.cell? ⟨w.heap.size, 3, none⟩ = some (.int .i64 h.to))
    (first | exact HKEEP.out _ (Below.refl _ _) | exact HKEEP.out _ HY.out | go_keep | fail)
    (first | (go_at_call 39; (with_reducible refine (busy_any A n c l h.frm h.to w4.drew HT.out.reads HF.out R1.out).mono ?_); rintro e w5 ⟨⟨Ab, cb, rfl, hrb, _, _⟩, hb⟩; have HY := Lib.hid (HY.out.trans (hb.mono HY.out.size)); have HB := Lib.hid (HB.out.trans (hb.mono HB.out.size)); have HT := Lib.hid (HT.out.next hb); have HH := Lib.hid (HH.out.next hb); have BX := Lib.hid (BX.out.next hb); have HO := Lib.hid (HO.out.next hb); have HBS := Lib.hid hrb; clear hb) | (go_at_call 20; (with_reducible refine (s_apart HH.out.reads HBS.out HH.out.few HBN.out HAP.out).mono ?_); rintro e w6 ⟨rfl, hb⟩; have HY := Lib.hid (HY.out.trans (hb.mono HY.out.size)); have HB := Lib.hid (HB.out.trans (hb.mono HB.out.size)); have HT := Lib.hid (HT.out.next hb); have HH := Lib.hid (HH.out.next hb); have BX := Lib.hid (BX.out.next hb); have HO := Lib.hid (HO.out.next hb); have HBS := Lib.hid (HBS.out.next hb); clear hb) | fail)
  clear HKEEP HY
  clear q0 q1 q2 q3
  have q0 := BX.out.c0
  have q1 := BX.out.c1
  have q2 := BX.out.c2
  have q3 := BX.out.c3
  go_wp2_with fail
  refine (own_any A2 m c2 h _ HH.out (by omega)).mono ?_
  rintro e w7 ⟨⟨A5, c5, rfl, hx5, he5⟩, hb⟩
  have hlt5 : ∀ b, (Value.slice A1 n c1).ownBlock = some b → b < _ := fun b hb => (let ⟨_, h1, _⟩ := HO.out; h1.lt b hb).2
  have HE5 : Hid (EH w7 (fun b => b < w7.heap.size ∧ (Value.slice A1 n c1).ownBlock ≠ some b) h _) := Lib.hid (eh_steady.keep he5 (fun _ _ => rfl) (fun b hb => ⟨hb.2, fun e => by have h1 := hlt5 b e; have h2 := hb.1; omega⟩))
  clear hlt5 hx5 he5
  replace HB := Lib.hid (HB.out.trans (hb.mono HB.out.size))
  replace HT := Lib.hid (HT.out.next hb)
  replace HH := Lib.hid (HH.out.next hb)
  replace BX := Lib.hid (BX.out.next hb)
  replace HO := Lib.hid (HO.out.next hb)
  replace HBS := Lib.hid (HBS.out.next hb)
  clear hb
  clear q0 q1 q2 q3
  have HINS : Hid (l.take K ++ h :: l.drop K = insT l h) := Lib.hid (ins_at HK.out (hasT_no.1 HHAS.out)).symm
  go_wp2_with fail
  refine (insertH_on HO.out (by omega) HLN.out HKN.out HE5.out).mono ?_
  rintro e w8 ⟨v', rfl, hon⟩
  rw [HINS.out] at hon
  obtain ⟨A7, c7, rfl, hz1, hz2⟩ := ON.form hon
  have HON := Lib.hid hon
  have HBF := Lib.hid (HB0.out.trans ((ON.below hon).mono HB0.out.size))
  clear hon hz1 hz2
  go_wp2
  go_ret2
  exact onh_post HON.out HBF.out

theorem heldAdd_any (A : Option Addr) (n c : Nat) (l : Tb) (A2 : Option Addr) (m c2 : Nat) (h : Hd) (w : World) (hl : TAsk w A n c l) (hf : FewT l) (hh : HAsk w A2 m c2 h) (hm : m ≤ 100) : Calls Tryz.prog 22 #[.slice A n c, .agg #[.int .i64 h.id, .slice A2 m c2, .int .i64 h.frm, .int .i64 h.to]] w (TEPost (addT l h) (addE l h) w) := by
  unfold addT
  cases h1 : rightT l with
  | false =>
    have e : addE l h = 1 := by unfold addE; rw [h1]; rfl
    rw [e, if_neg (by omega)]
    exact heldAdd_1 A n c l A2 m c2 h w hl hf hh hm h1
  | true =>
    cases h2 : mayH h with
    | false =>
      have e : addE l h = 1 := by unfold addE; rw [h1, h2]; rfl
      rw [e, if_neg (by omega)]
      exact heldAdd_2 A n c l A2 m c2 h w hl hf hh hm h1 h2
    | true =>
      have hmay : MayH h := of_decide_eq_true h2
      cases h3 : hasT l h.id with
      | true =>
        have e : addE l h = 7 := by unfold addE; rw [h1, h2, if_neg (by simp), if_pos h3]
        rw [e, if_neg (by omega)]
        exact heldAdd_3 A n c l A2 m c2 h w hl hf hh hm h1 h2 h3
      | false =>
        have hn : ¬ 256 ≤ l.length := by have := hf.1; omega
        cases h4 : apartB h.things (busyT l h.frm h.to) with
        | false =>
          have hc : (l.any fun x => clashH x h) = true := by
            refine Classical.byContradiction fun hc => ?_
            rw [Bool.not_eq_true, List.any_eq_false] at hc
            have := (busy_apart h1 hmay).1 (fun x hx => by simpa using hc x hx)
            rw [apart_comm, h4] at this
            cases this
          have e : addE l h = 5 := by unfold addE; rw [h1, h2, if_neg (by simp), if_neg (by rw [h3]; simp), if_pos (.inr hc)]
          rw [e, if_neg (by omega)]
          exact heldAdd_4 A n c l A2 m c2 h w hl hf hh hm h1 h2 h3 h4
        | true =>
          have hc := (busy_apart h1 hmay).2 (by rw [apart_comm]; exact h4)
          have e : addE l h = 0 := add_ok.2 ⟨rightT_is.1 h1, hmay, hasT_no.1 h3, by omega, hc⟩
          rw [e, if_pos rfl]
          exact heldAdd_5 A n c l A2 m c2 h w hl hf hh hm h1 h2 h3 h4

end Go.Proofs.YtchogijdkagiiaaGreatDoor

namespace Go.Proofs
open Go.Shelf
open Go.RowKit
def Tryz.sortTimes_ren : Go.Shelf.Ren := ⟨fun | 5 => 83 | 7 => 96 | 8 => 97 | 10 => 114 | 11 => 115 | 12 => 116 | 13 => 117 | 14 => 118 | 15 => 119 | 16 => 120 | 17 => 121 | 18 => 122 | 19 => 123 | 20 => 124 | 30 => 139 | 31 => 140 | 32 => 141 | 33 => 142 | 34 => 143 | 35 => 111 | 40 => 147 | n => n, fun | 0 => 0 | 3 => 3 | 4 => 4 | 5 => 5 | 9 => 9 | 22 => 78 | 23 => 78 | 25 => 2 | 32 => 103 | 35 => 134 | 36 => 135 | 41 => 59 | 44 => 142 | 46 => 67 | 53 => 155 | 57 => 159 | 63 => 163 | 64 => 164 | n => n, fun | n => n⟩
theorem Tryz.sortTimes : Go.Proofs.SlLaysM.n5 Tryz.prog Tryz.sortTimes_ren := {
  mixed := by kernel_rfl
  f5 := ⟨Tryz.f83.name, by decide, Tryz.func83.trans (congrArg some (by kernel_rfl))⟩
  f7 := ⟨Tryz.f96.name, by decide, Tryz.func96.trans (congrArg some (by kernel_rfl))⟩
  f8 := Tryz.func97.trans (congrArg some (by kernel_rfl))
  f10 := ⟨Tryz.f114.name, by decide, Tryz.func114.trans (congrArg some (by kernel_rfl))⟩
  f11 := ⟨Tryz.f115.name, by decide, Tryz.func115.trans (congrArg some (by kernel_rfl))⟩
  f12 := ⟨Tryz.f116.name, by decide, Tryz.func116.trans (congrArg some (by kernel_rfl))⟩
  f13 := ⟨Tryz.f117.name, by decide, Tryz.func117.trans (congrArg some (by kernel_rfl))⟩
  f14 := ⟨Tryz.f118.name, by decide, Tryz.func118.trans (congrArg some (by kernel_rfl))⟩
  f15 := ⟨Tryz.f119.name, by decide, Tryz.func119.trans (congrArg some (by kernel_rfl))⟩
  f16 := ⟨Tryz.f120.name, by decide, Tryz.func120.trans (congrArg some (by kernel_rfl))⟩
  f17 := ⟨Tryz.f121.name, by decide, Tryz.func121.trans (congrArg some (by kernel_rfl))⟩
  f18 := ⟨Tryz.f122.name, by decide, Tryz.func122.trans (congrArg some (by kernel_rfl))⟩
  f19 := Tryz.func123.trans (congrArg some (by kernel_rfl))
  f20 := Tryz.func124.trans (congrArg some (by kernel_rfl))
  f30 := ⟨Tryz.f139.name, by decide, Tryz.func139.trans (congrArg some (by kernel_rfl))⟩
  f31 := Tryz.func140.trans (congrArg some (by kernel_rfl))
  f32 := Tryz.func141.trans (congrArg some (by kernel_rfl))
  f33 := ⟨Tryz.f142.name, by decide, Tryz.func142.trans (congrArg some (by kernel_rfl))⟩
  f34 := ⟨Tryz.f143.name, by decide, Tryz.func143.trans (congrArg some (by kernel_rfl))⟩
  f35 := ⟨Tryz.f111.name, by decide, Tryz.func111.trans (congrArg some (by kernel_rfl))⟩
  f40 := ⟨Tryz.f147.name, by decide, Tryz.func147.trans (congrArg some (by kernel_rfl))⟩
  t0 := Tryz.underlying0
  a0 := Tryz.isAgg0
  z0 := Tryz.sizeOf0
  v0 := Tryz.zeroValue0
  t3 := Tryz.underlying3
  a3 := Tryz.isAgg3
  z3 := Tryz.sizeOf3
  v3 := Tryz.zeroValue3
  t4 := Tryz.underlying4
  a4 := Tryz.isAgg4
  z4 := Tryz.sizeOf4
  v4 := Tryz.zeroValue4
  t5 := Tryz.underlying5
  a5 := Tryz.isAgg5
  z5 := Tryz.sizeOf5
  v5 := Tryz.zeroValue5
  t9 := Tryz.underlying9
  a9 := Tryz.isAgg9
  z9 := Tryz.sizeOf9
  v9 := Tryz.zeroValue9
  t22 := Tryz.underlying78
  a22 := Tryz.isAgg78
  z22 := Tryz.sizeOf78
  v22 := Tryz.zeroValue78
  t23 := Tryz.underlying78
  a23 := Tryz.isAgg78
  z23 := Tryz.sizeOf78
  v23 := Tryz.zeroValue78
  t25 := Tryz.underlying2
  a25 := Tryz.isAgg2
  z25 := Tryz.sizeOf2
  v25 := Tryz.zeroValue2
  t32 := Tryz.underlying103
  a32 := Tryz.isAgg103
  z32 := Tryz.sizeOf103
  v32 := Tryz.zeroValue103
  t35 := Tryz.underlying134
  a35 := Tryz.isAgg134
  z35 := Tryz.sizeOf134
  v35 := Tryz.zeroValue134
  t36 := Tryz.underlying135
  a36 := Tryz.isAgg135
  z36 := Tryz.sizeOf135
  v36 := Tryz.zeroValue135
  t41 := Tryz.underlying59
  a41 := Tryz.isAgg59
  z41 := Tryz.sizeOf59
  v41 := Tryz.zeroValue59
  t44 := Tryz.underlying142
  a44 := Tryz.isAgg142
  z44 := Tryz.sizeOf142
  v44 := Tryz.zeroValue142
  t46 := Tryz.underlying67
  a46 := Tryz.isAgg67
  z46 := Tryz.sizeOf67
  v46 := Tryz.zeroValue67
  t53 := Tryz.underlying155
  a53 := Tryz.isAgg155
  z53 := Tryz.sizeOf155
  v53 := Tryz.zeroValue155
  t57 := Tryz.underlying159
  a57 := Tryz.isAgg159
  z57 := Tryz.sizeOf159
  v57 := Tryz.zeroValue159
  t63 := Tryz.underlying163
  a63 := Tryz.isAgg163
  z63 := Tryz.sizeOf163
  v63 := Tryz.zeroValue163
  t64 := Tryz.underlying164
  a64 := Tryz.isAgg164
  z64 := Tryz.sizeOf164
  v64 := Tryz.zeroValue164
}
def Tryz.compactTimes_ren : Go.Shelf.Ren := ⟨fun | 43 => 84 | n => n, fun | 0 => 0 | 3 => 3 | 4 => 4 | 22 => 78 | 23 => 2 | n => n, fun | n => n⟩
theorem Tryz.compactTimes : Go.Proofs.SlLaysE.n43 Tryz.prog Tryz.compactTimes_ren := {
  mixed := by kernel_rfl
  f43 := ⟨Tryz.f84.name, by decide, Tryz.func84.trans (congrArg some (by kernel_rfl))⟩
  t0 := Tryz.underlying0
  a0 := Tryz.isAgg0
  z0 := Tryz.sizeOf0
  v0 := Tryz.zeroValue0
  t3 := Tryz.underlying3
  a3 := Tryz.isAgg3
  z3 := Tryz.sizeOf3
  v3 := Tryz.zeroValue3
  t4 := Tryz.underlying4
  a4 := Tryz.isAgg4
  z4 := Tryz.sizeOf4
  v4 := Tryz.zeroValue4
  t22 := Tryz.underlying78
  a22 := Tryz.isAgg78
  z22 := Tryz.sizeOf78
  v22 := Tryz.zeroValue78
  a23 := Tryz.isAgg2
  z23 := Tryz.sizeOf2
}

end Go.Proofs

namespace Go.Proofs.YtchogijdkagiiaaGreatDoor
open Go.RowKit Go.Sort

theorem int64_infoH : (Tryz.prog.info? 2).map (fun i => (i.zero, i.size, i.bytes)) = some (some (.int .i64 0), 1, 8) := by kernel_rfl
theorem ends_take_yes {l : Tb} {k : Nat} {z : Int} (hk : k < l.length) (h : z < (l.getD k hd0).to) : ((l.take (k + 1)).map Hd.to).filter (fun t => decide (z < t)) = ((l.take k).map Hd.to).filter (fun t => decide (z < t)) ++ [(l.getD k hd0).to] := by
  rw [getD_at hk] at h ⊢
  rw [List.take_succ_eq_append_getElem hk, List.map_append, List.filter_append]
  simp [h]
theorem ends_take_no {l : Tb} {k : Nat} {z : Int} (hk : k < l.length) (h : ¬ z < (l.getD k hd0).to) : ((l.take (k + 1)).map Hd.to).filter (fun t => decide (z < t)) = ((l.take k).map Hd.to).filter (fun t => decide (z < t)) := by
  rw [getD_at hk] at h
  rw [List.take_succ_eq_append_getElem hk, List.map_append, List.filter_append]
  simp [h]
theorem put_below {B g q : Nat} {w0 w : World} {d : Array Int} (h : Below B w0 w) (hB : B ≤ g) : Below B w0 (putRow (Value.int .i64) (Sort.ahead w q) g 0 d) := by
  refine h.trans ⟨rfl, rfl, rfl, by simp [putRow, mapBlock], fun b hb => ?_⟩
  show ((Sort.ahead w q).heap.modify g (onCells (putCells (Value.int .i64) 0 d)))[b]? = _
  rw [Array.getElem?_modify, if_neg (by omega)]
  rfl
theorem grow_below {B : Nat} {w0 w : World} {os : Array Obj} (h : Below B w0 w) (hB : B ≤ w.heap.size) : Below B w0 (grow w os) :=
  h.trans ⟨rfl, rfl, rfl, by simp, fun b hb => heap_grow_old w os (by omega)⟩

set_option maxRecDepth 100000 in
set_option maxHeartbeats 2000000 in
/-- too short to hold a time twice -/
theorem compact_short (A : Option Addr) (n c : Nat) (w : World) (hn : n < 2) :
    Calls Tryz.prog 84 #[.slice A n c] w fun e w' => e = .returned (.slice A n c) ∧ w' = w := by
  have d0 : decide (n < 2) = true := decide_eq_true hn
  go_enter Tryz.func84, Tryz.ntmps84
  go_wp2
  go_ret
  exact ⟨rfl, rfl⟩
/-- sorted in place -/
theorem sortTimes_any (A : Option Addr) (n c : Nat) (L : List Int) (w wr : World) (hO : ON EI 1 2 w (.slice A n c) L wr) (hln : L.length = n) (hn : n ≤ 1000) :
    Calls Tryz.prog 83 #[.slice A n c] wr fun e w' => e = .returned (.tuple #[]) ∧ Below w.heap.size w w' ∧ (n = 0 ∨ ∃ g, A = some ⟨g, 0, none⟩ ∧ w.heap.size ≤ g ∧ g < w'.heap.size ∧ Holds (Value.int .i64) w' g 0 (L.mergeSort fun x y => decide (x ≤ y)).toArray) := by
  rcases Nat.eq_zero_or_pos n with h0 | h0
  · subst h0
    have hcon := Go.Proofs.AnyM.slices_Sort_int_none Tryz.sortTimes A c wr
    change Calls Tryz.prog 83 _ _ _ at hcon
    exact hcon.mono fun e w' ⟨h1, h2⟩ => ⟨h1, by rw [h2]; exact hO.below, .inl rfl⟩
  · obtain ⟨h1, h2⟩ := on_own hO
    obtain ⟨g, rfl, hgb, hgl⟩ := hO.head h0
    rw [hln] at h1
    have hH : Holds (Value.int .i64) wr g 0 L.toArray := fun j hj => by
      have hj' : j < L.length := by simpa using hj
      rw [Nat.zero_add, h1.cellAt j (by omega), h1.frozenAt j, List.getElem?_map, List.getElem?_eq_getElem hj', arr_at hj']
      exact ⟨rfl, rfl⟩
    have hcon := Go.Proofs.AnyM.slices_Sort_int Tryz.sortTimes g 0 c L wr hH hgl (by omega)
    change Calls Tryz.prog 83 _ _ _ at hcon
    rw [hln] at hcon
    refine hcon.mono fun e w' ⟨e1, q, os, e2⟩ => ⟨e1, ?_, .inr ⟨g, rfl, hgb, ?_, ?_⟩⟩
    · rw [e2]
      exact grow_below (put_below h2 hgb) (by simp [putRow, mapBlock]; exact h2.size)
    · rw [e2]
      simp [putRow, mapBlock]
      show g < wr.heap.size + _
      omega
    · rw [e2]
      exact holds_grow _ _ _ _ _ _ (by simp [putRow, mapBlock]; exact hgl) (holds_putRow _ _ _ _ L.toArray _ (holds_ahead _ _ _ _ _ _ hH) (by simp))

/-- each once -/
theorem compactTimes_any (g n c : Nat) (S : List Int) (w wr : World) (hb : Below w.heap.size w wr) (hgb : w.heap.size ≤ g) (hgl : g < wr.heap.size) (hH : Holds (Value.int .i64) wr g 0 S.toArray) (hln : S.length = n) (hn : n ≤ 1000) (hc : n ≤ c) :
    Calls Tryz.prog 84 #[.slice (some ⟨g, 0, none⟩) n c] wr (IPost (Lib.compactUpTo S.toArray S.length) w) := by
  have hsz : S.toArray.size = n := by simpa using hln
  have hcon := Go.Proofs.AnyE.slices_Compact Tryz.compactTimes (Value.int .i64) (fun _ => rfl) (Go.Proofs.EqlAt.intD _ _ _) (Go.Proofs.NeqAt.intD _ _ _) 0 Tryz.zeroValue2 g 0 c S.toArray wr hH (by omega) (by omega)
  change Calls Tryz.prog 84 _ _ _ at hcon
  rw [hsz] at hcon
  rw [hln]
  obtain ⟨L, hL⟩ : ∃ L, Lib.compactUpTo S.toArray n = L := ⟨_, rfl⟩
  have hLn : L.length ≤ n := by
    rw [← hL]
    unfold Lib.compactUpTo
    rw [List.length_map]
    have := List.length_filter_le (Lib.keeps S.toArray) (List.range n)
    rwa [List.length_range] at this
  rw [hL] at hcon ⊢
  refine hcon.mono fun e w' ⟨e1, q, e2⟩ => ?_
  have hP : Holds (Value.int .i64) w' g 0 (L ++ List.replicate (n - L.length) 0).toArray := by
    rw [e2]
    exact holds_putRow _ _ _ _ S.toArray _ (holds_ahead _ _ _ _ _ _ hH) (by simp; omega)
  have hgl' : g < w'.heap.size := by rw [e2]; simp [putRow, mapBlock]; exact hgl
  rw [e1]
  refine ipost_mk ⟨rfl, fun h0 => ⟨g, 0, rfl, hgl', fun j hj => ?_⟩⟩ (fun e => by cases e) (by omega) (by rw [e2]; exact put_below hb hgb)
  have h1 := (hP j (by simp; omega)).1
  rw [h1, arr_at (by simp; omega), List.getElem_append_left hj, List.getD, List.getElem?_eq_getElem hj]
  rfl


end Go.Proofs.YtchogijdkagiiaaGreatDoor

namespace Go.Proofs.YtchogijdkagiiaaGreatDoor
open Go.RowKit

set_option maxRecDepth 100000 in
set_option maxHeartbeats 8000000 in
theorem slotTimes_any (HD : HeldOk) (A : Option Addr) (n c : Nat) (l : Tb) (t : Int) (w : World) (hl : TAsk w A n c l) (hf : FewT l) :
    Calls Tryz.prog 45 #[.slice A n c, .int .i64 t] w (IPost (ticksS l t) w) := by
  obtain ⟨i0, hi0, hz0, hz1, hz2⟩ := info_parts int64_infoH
  have hba : Below w.heap.size w (w.alloc (.cells #[.int .i64 t] 2)) := (Below.refl _ _).alloc (Nat.le_refl _) _
  have TA := Lib.hid (hl.next hba)
  have HF := Lib.hid hf
  have HOW : Hid (World.ownsRow (w.alloc (.cells #[.int .i64 t] 2)) w.heap.size 2 1 (.slice (some ⟨w.heap.size, 0, none⟩) 1 1) 1 [.int .i64 t]) := Lib.hid ⟨rfl, .inr ⟨w.heap.size, 1, #[.int .i64 t], rfl, Nat.le_refl _, heap_alloc_new w _, Nat.le_refl _, by decide, rfl, rfl⟩⟩
  have HB := Lib.hid hba
  obtain ⟨xs, hxs⟩ : ∃ xs, endsT l t = xs := ⟨_, rfl⟩
  have HEL : Hid (xs.length ≤ 1000) := Lib.hid (by rw [← hxs]; have := ends_len l t; have := hf.1; omega)
  have HT5 : ticksS l t = t :: xs := by unfold ticksS; rw [hxs]
  rw [HT5]
  have HXS := Lib.hid hxs
  clear hl hf hba hxs HT5
  go_enter Tryz.func45, Tryz.ntmps45
  go_wp2_with fail
  refine (h10_ends HD TA.out HF.out HXS.out).mono ?_
  rintro e w2 ⟨⟨A5, c5, rfl, hr5, hn5, hc5⟩, hb⟩
  have HO2 : Hid (ON EI 1 2 w (.slice (some ⟨w.heap.size, 0, none⟩) 1 1) [t] w2) := Lib.hid ((own_on HOW.out HB.out).next ei_steady hb)
  have HR5 := Lib.hid hr5
  have HN5 := Lib.hid hn5
  clear hr5 hn5 hc5 hb HOW
  obtain ⟨L, hL⟩ : ∃ L, xs.length = L := ⟨_, rfl⟩
  have HLL := Lib.hid hL
  have hl1 : L ≤ 1000 := by rw [← hL]; exact HEL.out
  rw [hL] at HR5 ⊢
  clear hL HEL
  have HOW := Lib.hid (on_own HO2.out)
  go_wp2_with (at_builtin; refine wpList_append_RI _ rfl (.tmp 6) (.tmp 9) 78 rfl w.heap.size 2 i0 (.int .i64 0) 8 Tryz.underlying78 hi0 hz0 hz1 hz2 rfl (.slice (some ⟨w.heap.size, 0, none⟩) 1 1) 1 [.int .i64 t] rfl HOW.out.1 _ A5 L c5 xs rfl HR5.out HN5.out (by unfold maxLen; omega) (by omega) HOW.out.2.size ?_; intro v' w4 hown hgrow; refine Hid.out ?_)
  refine Lib.hid ?_
  have HP : Hid (IPost (t :: xs) w (.returned v') w4) := Lib.hid (ON.ipost (own_on (by
    have h := hown
    rw [← HLL.out, Nat.add_comm] at h
    exact h) (HOW.out.2.grown hgrow HOW.out.2.size (by intro k hk; have hk' : w.heap.size = k := (by simpa [Value.ownBlock] using hk); omega))))
  clear hown hgrow HOW HO2 HR5 HN5
  go_wp2
  go_ret
  exact HP.out

end Go.Proofs.YtchogijdkagiiaaGreatDoor
