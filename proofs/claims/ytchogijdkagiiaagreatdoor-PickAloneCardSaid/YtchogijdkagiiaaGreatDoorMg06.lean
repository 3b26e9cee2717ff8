/- The reference's Right and At of layer 10. Written by gen/gen_heldref3.py. The reference's One, Same, At and Short of layer 10. Written by gen/gen_heldref4.py. What the reference's Which answers: of two lists of int, the numbers that are in either, in both, or in the first alone. The reference's Busy and Short of layer 10. Written by gen/gen_heldref5.py. A row of holdings of one's own: a holding is stored; a table's clone, a holding's own memory. Go's slices.Clone of numbers, by a walk over its text: a clone lies in memory of its own. -/
import Derived.Test.YtchogijdkagiiaaGreatDoorMg05
import Derived.Test.YtchogijdkagiiaaGreatDoorMg03
import Derived.Test.YtchogijdkagiiaaGreatDoorMg04
import Derived.Test.YtchogijdkagiiaaGreatDoorMg02
import Derived.Lib.SliceRun
import Derived.LoopTactic
import Derived.Deep.QuietTactic
import Derived.Test.YtchogijdkagiiaaGreatDoorMg01
namespace Go.Proofs.YtchogijdkagiiaaGreatDoor
open Go.RowKit

/-- the first i of a table stand right -/
structure RPH (l : Tb) (i : Nat) : Prop where
  may : ∀ j, j < i → MayH (l.getD j hd0)
  row : ∀ j k, j < k → k < i → Ahead (l.getD j hd0) (l.getD k hd0)
theorem getD_hd {l : Tb} {i : Nat} (h : i < l.length) : l.getD i hd0 = l[i] := by rw [List.getD, List.getElem?_eq_getElem h]; rfl
theorem rp_all {l : Tb} : RightT l ↔ l.length ≤ 256 ∧ RPH l l.length := by
  constructor
  · intro h
    refine ⟨h.few, fun j hj => by rw [getD_hd hj]; exact h.may _ (List.getElem_mem hj), fun j k hjk hk => ?_⟩
    rw [getD_hd hk, getD_hd (show j < l.length by omega)]
    exact List.pairwise_iff_getElem.1 h.row j k (by omega) hk hjk
  · rintro ⟨h1, h2⟩
    refine ⟨h1, fun x hx => ?_, List.pairwise_iff_getElem.2 fun j k hj hk hjk => ?_⟩
    · obtain ⟨j, hj, rfl⟩ := List.getElem_of_mem hx
      rw [← getD_hd hj]; exact h2.may j hj
    · rw [← getD_hd hj, ← getD_hd hk]; exact h2.row j k hjk hk
theorem rp_zero (l : Tb) : RPH l 0 := ⟨fun j hj => absurd hj (by omega), fun j k _ hk => absurd hk (by omega)⟩
theorem rp_less {l : Tb} {i j : Nat} (h : RPH l j) (hi : i ≤ j) : RPH l i := ⟨fun k hk => h.may k (by omega), fun a b h1 h2 => h.row a b h1 (by omega)⟩
theorem rp_succ {l : Tb} {i : Nat} (h : RPH l i) (h1 : MayH (l.getD i hd0)) (h2 : 0 < i → (l.getD (i - 1) hd0).id < (l.getD i hd0).id) (h3 : ∀ k, k < i → clashH (l.getD k hd0) (l.getD i hd0) = false) : RPH l (i + 1) := by
  refine ⟨fun j hj => ?_, fun j k hjk hk => ?_⟩
  · by_cases e : j = i
    · subst e; exact h1
    · exact h.may j (by omega)
  · by_cases e : k = i
    · subst e
      refine ⟨?_, h3 j hjk⟩
      have h4 := h2 (by omega)
      by_cases e2 : j = k - 1
      · subst e2; exact h4
      · have := (h.row j (k - 1) (by omega) (by omega)).1
        omega
    · exact h.row j k hjk (by omega)
theorem right_no {l : Tb} {i : Nat} (hi : i < l.length) (h : ¬ RPH l (i + 1)) : rightT l = false := by
  refine Bool.eq_false_iff.2 fun hr => h ?_
  exact rp_less (rp_all.1 (rightT_is.1 hr)).2 hi
theorem right_longH {l : Tb} (h : 256 < l.length) : rightT l = false := by
  refine Bool.eq_false_iff.2 fun hr => ?_
  have := (rightT_is.1 hr).few
  omega

set_option maxRecDepth 100000 in
set_option maxHeartbeats 8000000 in
theorem refRightT_any (A : Option Addr) (n c : Nat) (l : Tb) (w : World) (hr : RT w w.heap.size A n l) (hn : n ≤ maxLen) :
    Calls Tryz.prog 28 #[.slice A n c] w fun e w' => e = .returned (.bool (rightT l)) ∧ Below w.heap.size w w' := by
  have HR0 := Lib.hid hr
  have HL := Lib.hid hr.len
  unfold maxLen at hn
  clear hr
  by_cases h256 : 256 < n
  · have HNO : Hid (rightT l = false) := Lib.hid (right_longH (by rw [HL.out]; exact h256))
    have d0 : decide (256 < n) = true := decide_eq_true h256
    go_enter Tryz.func28, Tryz.ntmps28
    go_wp2
    go_ret
    exact ⟨by rw [HNO.out]; rfl, Below.refl _ _⟩
  · have d0 : decide (256 < n) = false := decide_eq_false h256
    obtain ⟨rv, hrv⟩ : ∃ v, rightT l = v := ⟨_, rfl⟩
    go_enter Tryz.func28, Tryz.ntmps28
    go_wp2
    go_loopw [3] (fun iv wr => ∃ i : Nat, i ≤ n ∧ iv = .int .i64 i ∧ RPH l i ∧ Below w.heap.size w wr) (fun iv _ => n - (intOf iv).toNat)
    case atStart => exact ⟨0, Nat.zero_le _, rfl, rp_zero l, Below.refl _ _⟩
    case round =>
      obtain ⟨i, hi, rfl, hrp, hbel⟩ := hrel
      have HRP := Lib.hid hrp
      have HB := Lib.hid hbel
      have HR := Lib.hid (HR0.out.next hbel)
      clear hrp hbel
      by_cases hlt : i < n
      · obtain ⟨b, off, A2, m2, c2, rfl, hbl, c0, c1, c2', c3, hx⟩ := HR.out.one hlt
        obtain ⟨x, hxx⟩ : ∃ x, l.getD i hd0 = x := ⟨_, rfl⟩
        rw [hxx] at c0 c2' c3 hx
        have HX := Lib.hid hx
        have HXX := Lib.hid hxx
        have hil : i < l.length := by rw [HL.out]; exact hlt
        clear hx hxx
        by_cases hm : MayH x
        · have HMX := Lib.hid hm
          have EM : Hid (mayH x = true) := Lib.hid (decide_eq_true hm)
          clear hm
          by_cases h0 : 0 < i
          · obtain ⟨b', off', A4, m4, c4, e1, hbl2, e0, _, _, _, _⟩ := HR.out.one (show i - 1 < n by omega)
            injection e1 with e1
            injection e1 with e2 e3
            subst e2 e3
            obtain ⟨y, hy⟩ : ∃ y, (l.getD (i - 1) hd0).id = y := ⟨_, rfl⟩
            rw [hy] at e0
            have HYI := Lib.hid hy
            have g0 : decide (0 < i) = true := decide_eq_true h0
            have g1 : ((i : Int) - 1) = ((i - 1 : Nat) : Int) := by omega
            have hiz : (0 : Int) ≤ (i : Int) - 1 := by omega
            have hin : (i : Int) - 1 < (n : Int) := by omega
            clear hy hbl2
            by_cases h1 : x.id ≤ y
            · have g2 : decide (x.id ≤ y) = true := decide_eq_true h1
              have HNO : Hid (rightT l = false) := Lib.hid (right_no hil (fun hp => by
                have := (hp.row (i - 1) i (by omega) (by omega)).1
                rw [HYI.out, HXX.out] at this
                omega))
              go_wp2
              have zc0 : ∀ p : Later wr, p.now.cell? ⟨b, off + i * 4, none⟩ = some (.int .i64 x.id) := fun _ => Later.cell hbl c0
              have zc1 : ∀ p : Later wr, p.now.cell? ⟨b, off + i * 4 + 1, none⟩ = some (.slice A2 m2 c2) := fun _ => Later.cell hbl c1
              have zc2 : ∀ p : Later wr, p.now.cell? ⟨b, off + i * 4 + 2, none⟩ = some (.int .i64 x.frm) := fun _ => Later.cell hbl c2'
              have zc3 : ∀ p : Later wr, p.now.cell? ⟨b, off + i * 4 + 3, none⟩ = some (.int .i64 x.to) := fun _ => Later.cell hbl c3
              have zc4 : ∀ p : Later wr, p.now.cell? ⟨b, off + (i - 1) * 4, none⟩ = some (.int .i64 y) := fun _ => Later.cell hbl e0
              refine wp_region_later (by kernel_rfl) (by kernel_rfl) ?_
              repeat (first | go_big_quiet_skip | (go_big_quiet_want; go_big_quiet_op; first | go_big_quiet_on | (apply Exists.intro; refine ⟨fun pz => ?_, ?_⟩; (first | (go_at_call 48; exact Calls.later_of (refMay_b' (HX.out.next pz.bel) EM.out)) | fail); go_big_quiet_on)))
              refine wpQuiet_nil ?_
              intro _ hw'
              obtain ⟨pz, rfl⟩ := hw'
              obtain ⟨w1, hb⟩ := pz
              try dsimp only
              clear zc0 zc1 zc2 zc3 zc4
              replace HB := Lib.hid (HB.out.trans (hb.mono HB.out.size))
              replace HX := Lib.hid (HX.out.next hb)
              replace HR := Lib.hid (HR.out.next hb)
              clear hb
              go_wp2
              go_ret
              exact ⟨by rw [HNO.out]; rfl, HB.out⟩
            · have g2 : decide (x.id ≤ y) = false := decide_eq_false h1
              have HID : Hid (0 < i → (l.getD (i - 1) hd0).id < (l.getD i hd0).id) := Lib.hid (fun _ => by rw [HYI.out, HXX.out]; omega)
              go_wp2
              have zc0 : ∀ p : Later wr, p.now.cell? ⟨b, off + i * 4, none⟩ = some (.int .i64 x.id) := fun _ => Later.cell hbl c0
              have zc1 : ∀ p : Later wr, p.now.cell? ⟨b, off + i * 4 + 1, none⟩ = some (.slice A2 m2 c2) := fun _ => Later.cell hbl c1
              have zc2 : ∀ p : Later wr, p.now.cell? ⟨b, off + i * 4 + 2, none⟩ = some (.int .i64 x.frm) := fun _ => Later.cell hbl c2'
              have zc3 : ∀ p : Later wr, p.now.cell? ⟨b, off + i * 4 + 3, none⟩ = some (.int .i64 x.to) := fun _ => Later.cell hbl c3
              have zc4 : ∀ p : Later wr, p.now.cell? ⟨b, off + (i - 1) * 4, none⟩ = some (.int .i64 y) := fun _ => Later.cell hbl e0
              refine wp_region_later (by kernel_rfl) (by kernel_rfl) ?_
              repeat (first | go_big_quiet_skip | (go_big_quiet_want; go_big_quiet_op; first | go_big_quiet_on | (apply Exists.intro; refine ⟨fun pz => ?_, ?_⟩; (first | (go_at_call 48; exact Calls.later_of (refMay_b' (HX.out.next pz.bel) EM.out)) | fail); go_big_quiet_on)))
              refine wpQuiet_nil ?_
              intro _ hw'
              obtain ⟨pz, rfl⟩ := hw'
              obtain ⟨w1, hb⟩ := pz
              try dsimp only
              clear zc0 zc1 zc2 zc3 zc4
              replace HB := Lib.hid (HB.out.trans (hb.mono HB.out.size))
              replace HX := Lib.hid (HX.out.next hb)
              replace HR := Lib.hid (HR.out.next hb)
              clear hb
              clear hbl c0 c1 c2' c3 e0
              go_wp2
              go_loopw [4] (fun kv wr => ∃ k : Nat, k ≤ i ∧ kv = .int .i64 k ∧ (∀ j, j < k → clashH (l.getD j hd0) x = false) ∧ Below w1.heap.size w1 wr) (fun kv _ => i - (intOf kv).toNat)
              case atStart => exact ⟨0, Nat.zero_le _, rfl, fun j hj => absurd hj (by omega), Below.refl _ _⟩
              case round =>
                obtain ⟨k, hk, rfl, hcl, hb⟩ := hrel
                have HCL := Lib.hid hcl
                have HB2 := Lib.hid hb
                clear hcl
                replace HB := Lib.hid (HB.out.trans (hb.mono HB.out.size))
                replace HX := Lib.hid (HX.out.next hb)
                replace HR := Lib.hid (HR.out.next hb)
                clear hb
                by_cases hklt : k < i
                · obtain ⟨b, off, A2, m2, c2, e1, hbl, c0, c1, c2', c3, hx0⟩ := HR.out.one hlt
                  injection e1 with e1
                  injection e1 with e2 e3
                  subst e2 e3
                  rw [HXX.out] at c0 c2' c3 hx0
                  have hkn : k < n := by omega
                  obtain ⟨b', off', A4, m4, c4, e1, hbl2, d0, d1, d2, d3, hy⟩ := HR.out.one hkn
                  injection e1 with e1
                  injection e1 with e2 e3
                  subst e2 e3
                  have hmy := HRP.out.may k hklt
                  obtain ⟨y, hyy⟩ : ∃ y, l.getD k hd0 = y := ⟨_, rfl⟩
                  rw [hyy] at d0 d2 d3 hy hmy
                  have HYY := Lib.hid hyy
                  have HY := Lib.hid hy
                  have HX0 := Lib.hid hx0
                  have RX := Lib.hid HMX.out.2.1
                  have RY := Lib.hid hmy.2.1
                  clear hy hyy hmy hx0
                  cases hcv : clashH y x with
                  | true =>
                    have EC := Lib.hid hcv
                    have HNO : Hid (rightT l = false) := Lib.hid (right_no (by rw [HL.out]; exact hlt) (fun hp => by
                      have := (hp.row k i hklt (by omega)).2
                      rw [HYY.out, HXX.out, hcv] at this
                      cases this))
                    clear hcv
                    go_wp2
                    have zc0 : ∀ p : Later wr, p.now.cell? ⟨b, off + k * 4, none⟩ = some (.int .i64 y.id) := fun _ => Later.cell hbl d0
                    have zc1 : ∀ p : Later wr, p.now.cell? ⟨b, off + k * 4 + 1, none⟩ = some (.slice A4 m4 c4) := fun _ => Later.cell hbl d1
                    have zc2 : ∀ p : Later wr, p.now.cell? ⟨b, off + k * 4 + 2, none⟩ = some (.int .i64 y.frm) := fun _ => Later.cell hbl d2
                    have zc3 : ∀ p : Later wr, p.now.cell? ⟨b, off + k * 4 + 3, none⟩ = some (.int .i64 y.to) := fun _ => Later.cell hbl d3
                    have zc4 : ∀ p : Later wr, p.now.cell? ⟨b, off + i * 4, none⟩ = some (.int .i64 x.id) := fun _ => Later.cell hbl c0
                    have zc5 : ∀ p : Later wr, p.now.cell? ⟨b, off + i * 4 + 1, none⟩ = some (.slice A2 m2 c2) := fun _ => Later.cell hbl c1
                    have zc6 : ∀ p : Later wr, p.now.cell? ⟨b, off + i * 4 + 2, none⟩ = some (.int .i64 x.frm) := fun _ => Later.cell hbl c2'
                    have zc7 : ∀ p : Later wr, p.now.cell? ⟨b, off + i * 4 + 3, none⟩ = some (.int .i64 x.to) := fun _ => Later.cell hbl c3
                    refine wp_region_later (by kernel_rfl) (by kernel_rfl) ?_
                    repeat (first | go_big_quiet_skip | (go_big_quiet_want; go_big_quiet_op; first | go_big_quiet_on | (apply Exists.intro; refine ⟨fun pz => ?_, ?_⟩; (first | (go_at_call 49; exact Calls.later_of (refClash_b (HY.out.next pz.bel) (HX0.out.next pz.bel) RY.out RX.out EC.out)) | fail); go_big_quiet_on)))
                    refine wpQuiet_nil ?_
                    intro _ hw'
                    obtain ⟨pz, rfl⟩ := hw'
                    obtain ⟨w2, hb⟩ := pz
                    try dsimp only
                    clear zc0 zc1 zc2 zc3 zc4 zc5 zc6 zc7
                    replace HB := Lib.hid (HB.out.trans (hb.mono HB.out.size))
                    replace HB2 := Lib.hid (HB2.out.trans (hb.mono HB2.out.size))
                    replace HX0 := Lib.hid (HX0.out.next hb)
                    replace HY := Lib.hid (HY.out.next hb)
                    replace HR := Lib.hid (HR.out.next hb)
                    clear hb
                    go_wp2
                    go_ret
                    exact ⟨by rw [HNO.out]; rfl, HB.out⟩
                  | false =>
                    have EC := Lib.hid hcv
                    have HCN : Hid (∀ j, j < k + 1 → clashH (l.getD j hd0) x = false) := Lib.hid (fun j hj => by
                      by_cases e : j = k
                      · subst e; rw [HYY.out]; exact hcv
                      · exact HCL.out j (by omega))
                    clear hcv
                    go_wp2
                    have zc0 : ∀ p : Later wr, p.now.cell? ⟨b, off + k * 4, none⟩ = some (.int .i64 y.id) := fun _ => Later.cell hbl d0
                    have zc1 : ∀ p : Later wr, p.now.cell? ⟨b, off + k * 4 + 1, none⟩ = some (.slice A4 m4 c4) := fun _ => Later.cell hbl d1
                    have zc2 : ∀ p : Later wr, p.now.cell? ⟨b, off + k * 4 + 2, none⟩ = some (.int .i64 y.frm) := fun _ => Later.cell hbl d2
                    have zc3 : ∀ p : Later wr, p.now.cell? ⟨b, off + k * 4 + 3, none⟩ = some (.int .i64 y.to) := fun _ => Later.cell hbl d3
                    have zc4 : ∀ p : Later wr, p.now.cell? ⟨b, off + i * 4, none⟩ = some (.int .i64 x.id) := fun _ => Later.cell hbl c0
                    have zc5 : ∀ p : Later wr, p.now.cell? ⟨b, off + i * 4 + 1, none⟩ = some (.slice A2 m2 c2) := fun _ => Later.cell hbl c1
                    have zc6 : ∀ p : Later wr, p.now.cell? ⟨b, off + i * 4 + 2, none⟩ = some (.int .i64 x.frm) := fun _ => Later.cell hbl c2'
                    have zc7 : ∀ p : Later wr, p.now.cell? ⟨b, off + i * 4 + 3, none⟩ = some (.int .i64 x.to) := fun _ => Later.cell hbl c3
                    refine wp_region_later (by kernel_rfl) (by kernel_rfl) ?_
                    repeat (first | go_big_quiet_skip | (go_big_quiet_want; go_big_quiet_op; first | go_big_quiet_on | (apply Exists.intro; refine ⟨fun pz => ?_, ?_⟩; (first | (go_at_call 49; exact Calls.later_of (refClash_b (HY.out.next pz.bel) (HX0.out.next pz.bel) RY.out RX.out EC.out)) | fail); go_big_quiet_on)))
                    refine wpQuiet_nil ?_
                    intro _ hw'
                    obtain ⟨pz, rfl⟩ := hw'
                    obtain ⟨w2, hb⟩ := pz
                    try dsimp only
                    clear zc0 zc1 zc2 zc3 zc4 zc5 zc6 zc7
                    replace HB := Lib.hid (HB.out.trans (hb.mono HB.out.size))
                    replace HB2 := Lib.hid (HB2.out.trans (hb.mono HB2.out.size))
                    replace HX0 := Lib.hid (HX0.out.next hb)
                    replace HY := Lib.hid (HY.out.next hb)
                    replace HR := Lib.hid (HR.out.next hb)
                    clear hb
                    go_wp2
                    go_roundw
                    case rel => exact ⟨k + 1, by omega, by go_num, HCN.out, HB2.out⟩
                    case measure => simp [intOf]; omega
                · have hki : k = i := by omega
                  have HRN : Hid (RPH l (i + 1)) := Lib.hid (rp_succ HRP.out (by rw [HXX.out]; exact HMX.out) HID.out (fun j hj => by rw [HXX.out]; exact HCL.out j (by omega)))
                  go_wp2
                  go_roundw
                  case rel => exact ⟨i + 1, by omega, by go_num, HRN.out, HB.out⟩
                  case measure => simp [intOf]; omega
          · have g0 : decide (0 < i) = false := decide_eq_false h0
            have HID : Hid (0 < i → (l.getD (i - 1) hd0).id < (l.getD i hd0).id) := Lib.hid (fun e => absurd e h0)
            go_wp2
            have zc0 : ∀ p : Later wr, p.now.cell? ⟨b, off + i * 4, none⟩ = some (.int .i64 x.id) := fun _ => Later.cell hbl c0
            have zc1 : ∀ p : Later wr, p.now.cell? ⟨b, off + i * 4 + 1, none⟩ = some (.slice A2 m2 c2) := fun _ => Later.cell hbl c1
            have zc2 : ∀ p : Later wr, p.now.cell? ⟨b, off + i * 4 + 2, none⟩ = some (.int .i64 x.frm) := fun _ => Later.cell hbl c2'
            have zc3 : ∀ p : Later wr, p.now.cell? ⟨b, off + i * 4 + 3, none⟩ = some (.int .i64 x.to) := fun _ => Later.cell hbl c3
            refine wp_region_later (by kernel_rfl) (by kernel_rfl) ?_
            repeat (first | go_big_quiet_skip | (go_big_quiet_want; go_big_quiet_op; first | go_big_quiet_on | (apply Exists.intro; refine ⟨fun pz => ?_, ?_⟩; (first | (go_at_call 48; exact Calls.later_of (refMay_b' (HX.out.next pz.bel) EM.out)) | fail); go_big_quiet_on)))
            refine wpQuiet_nil ?_
            intro _ hw'
            obtain ⟨pz, rfl⟩ := hw'
            obtain ⟨w1, hb⟩ := pz
            try dsimp only
            clear zc0 zc1 zc2 zc3
            replace HB := Lib.hid (HB.out.trans (hb.mono HB.out.size))
            replace HX := Lib.hid (HX.out.next hb)
            replace HR := Lib.hid (HR.out.next hb)
            clear hb
            clear hbl c0 c1 c2' c3
            go_wp2
            go_loopw [4] (fun kv wr => ∃ k : Nat, k ≤ i ∧ kv = .int .i64 k ∧ (∀ j, j < k → clashH (l.getD j hd0) x = false) ∧ Below w1.heap.size w1 wr) (fun kv _ => i - (intOf kv).toNat)
            case atStart => exact ⟨0, Nat.zero_le _, rfl, fun j hj => absurd hj (by omega), Below.refl _ _⟩
            case round =>
              obtain ⟨k, hk, rfl, hcl, hb⟩ := hrel
              have HCL := Lib.hid hcl
              have HB2 := Lib.hid hb
              clear hcl
              replace HB := Lib.hid (HB.out.trans (hb.mono HB.out.size))
              replace HX := Lib.hid (HX.out.next hb)
              replace HR := Lib.hid (HR.out.next hb)
              clear hb
              by_cases hklt : k < i
              · obtain ⟨b, off, A2, m2, c2, e1, hbl, c0, c1, c2', c3, hx0⟩ := HR.out.one hlt
                injection e1 with e1
                injection e1 with e2 e3
                subst e2 e3
                rw [HXX.out] at c0 c2' c3 hx0
                have hkn : k < n := by omega
                obtain ⟨b', off', A4, m4, c4, e1, hbl2, d0, d1, d2, d3, hy⟩ := HR.out.one hkn
                injection e1 with e1
                injection e1 with e2 e3
                subst e2 e3
                have hmy := HRP.out.may k hklt
                obtain ⟨y, hyy⟩ : ∃ y, l.getD k hd0 = y := ⟨_, rfl⟩
                rw [hyy] at d0 d2 d3 hy hmy
                have HYY := Lib.hid hyy
                have HY := Lib.hid hy
                have HX0 := Lib.hid hx0
                have RX := Lib.hid HMX.out.2.1
                have RY := Lib.hid hmy.2.1
                clear hy hyy hmy hx0
                cases hcv : clashH y x with
                | true =>
                  have EC := Lib.hid hcv
                  have HNO : Hid (rightT l = false) := Lib.hid (right_no (by rw [HL.out]; exact hlt) (fun hp => by
                    have := (hp.row k i hklt (by omega)).2
                    rw [HYY.out, HXX.out, hcv] at this
                    cases this))
                  clear hcv
                  go_wp2
                  have zc0 : ∀ p : Later wr, p.now.cell? ⟨b, off + k * 4, none⟩ = some (.int .i64 y.id) := fun _ => Later.cell hbl d0
                  have zc1 : ∀ p : Later wr, p.now.cell? ⟨b, off + k * 4 + 1, none⟩ = some (.slice A4 m4 c4) := fun _ => Later.cell hbl d1
                  have zc2 : ∀ p : Later wr, p.now.cell? ⟨b, off + k * 4 + 2, none⟩ = some (.int .i64 y.frm) := fun _ => Later.cell hbl d2
                  have zc3 : ∀ p : Later wr, p.now.cell? ⟨b, off + k * 4 + 3, none⟩ = some (.int .i64 y.to) := fun _ => Later.cell hbl d3
                  have zc4 : ∀ p : Later wr, p.now.cell? ⟨b, off + i * 4, none⟩ = some (.int .i64 x.id) := fun _ => Later.cell hbl c0
                  have zc5 : ∀ p : Later wr, p.now.cell? ⟨b, off + i * 4 + 1, none⟩ = some (.slice A2 m2 c2) := fun _ => Later.cell hbl c1
                  have zc6 : ∀ p : Later wr, p.now.cell? ⟨b, off + i * 4 + 2, none⟩ = some (.int .i64 x.frm) := fun _ => Later.cell hbl c2'
                  have zc7 : ∀ p : Later wr, p.now.cell? ⟨b, off + i * 4 + 3, none⟩ = some (.int .i64 x.to) := fun _ => Later.cell hbl c3
                  refine wp_region_later (by kernel_rfl) (by kernel_rfl) ?_
                  repeat (first | go_big_quiet_skip | (go_big_quiet_want; go_big_quiet_op; first | go_big_quiet_on | (apply Exists.intro; refine ⟨fun pz => ?_, ?_⟩; (first | (go_at_call 49; exact Calls.later_of (refClash_b (HY.out.next pz.bel) (HX0.out.next pz.bel) RY.out RX.out EC.out)) | fail); go_big_quiet_on)))
                  refine wpQuiet_nil ?_
                  intro _ hw'
                  obtain ⟨pz, rfl⟩ := hw'
                  obtain ⟨w2, hb⟩ := pz
                  try dsimp only
                  clear zc0 zc1 zc2 zc3 zc4 zc5 zc6 zc7
                  replace HB := Lib.hid (HB.out.trans (hb.mono HB.out.size))
                  replace HB2 := Lib.hid (HB2.out.trans (hb.mono HB2.out.size))
                  replace HX0 := Lib.hid (HX0.out.next hb)
                  replace HY := Lib.hid (HY.out.next hb)
                  replace HR := Lib.hid (HR.out.next hb)
                  clear hb
                  go_wp2
                  go_ret
                  exact ⟨by rw [HNO.out]; rfl, HB.out⟩
                | false =>
                  have EC := Lib.hid hcv
                  have HCN : Hid (∀ j, j < k + 1 → clashH (l.getD j hd0) x = false) := Lib.hid (fun j hj => by
                    by_cases e : j = k
                    · subst e; rw [HYY.out]; exact hcv
                    · exact HCL.out j (by omega))
                  clear hcv
                  go_wp2
                  have zc0 : ∀ p : Later wr, p.now.cell? ⟨b, off + k * 4, none⟩ = some (.int .i64 y.id) := fun _ => Later.cell hbl d0
                  have zc1 : ∀ p : Later wr, p.now.cell? ⟨b, off + k * 4 + 1, none⟩ = some (.slice A4 m4 c4) := fun _ => Later.cell hbl d1
                  have zc2 : ∀ p : Later wr, p.now.cell? ⟨b, off + k * 4 + 2, none⟩ = some (.int .i64 y.frm) := fun _ => Later.cell hbl d2
                  have zc3 : ∀ p : Later wr, p.now.cell? ⟨b, off + k * 4 + 3, none⟩ = some (.int .i64 y.to) := fun _ => Later.cell hbl d3
                  have zc4 : ∀ p : Later wr, p.now.cell? ⟨b, off + i * 4, none⟩ = some (.int .i64 x.id) := fun _ => Later.cell hbl c0
                  have zc5 : ∀ p : Later wr, p.now.cell? ⟨b, off + i * 4 + 1, none⟩ = some (.slice A2 m2 c2) := fun _ => Later.cell hbl c1
                  have zc6 : ∀ p : Later wr, p.now.cell? ⟨b, off + i * 4 + 2, none⟩ = some (.int .i64 x.frm) := fun _ => Later.cell hbl c2'
                  have zc7 : ∀ p : Later wr, p.now.cell? ⟨b, off + i * 4 + 3, none⟩ = some (.int .i64 x.to) := fun _ => Later.cell hbl c3
                  refine wp_region_later (by kernel_rfl) (by kernel_rfl) ?_
                  repeat (first | go_big_quiet_skip | (go_big_quiet_want; go_big_quiet_op; first | go_big_quiet_on | (apply Exists.intro; refine ⟨fun pz => ?_, ?_⟩; (first | (go_at_call 49; exact Calls.later_of (refClash_b (HY.out.next pz.bel) (HX0.out.next pz.bel) RY.out RX.out EC.out)) | fail); go_big_quiet_on)))
                  refine wpQuiet_nil ?_
                  intro _ hw'
                  obtain ⟨pz, rfl⟩ := hw'
                  obtain ⟨w2, hb⟩ := pz
                  try dsimp only
                  clear zc0 zc1 zc2 zc3 zc4 zc5 zc6 zc7
                  replace HB := Lib.hid (HB.out.trans (hb.mono HB.out.size))
                  replace HB2 := Lib.hid (HB2.out.trans (hb.mono HB2.out.size))
                  replace HX0 := Lib.hid (HX0.out.next hb)
                  replace HY := Lib.hid (HY.out.next hb)
                  replace HR := Lib.hid (HR.out.next hb)
                  clear hb
                  go_wp2
                  go_roundw
                  case rel => exact ⟨k + 1, by omega, by go_num, HCN.out, HB2.out⟩
                  case measure => simp [intOf]; omega
              · have hki : k = i := by omega
                have HRN : Hid (RPH l (i + 1)) := Lib.hid (rp_succ HRP.out (by rw [HXX.out]; exact HMX.out) HID.out (fun j hj => by rw [HXX.out]; exact HCL.out j (by omega)))
                go_wp2
                go_roundw
                case rel => exact ⟨i + 1, by omega, by go_num, HRN.out, HB.out⟩
                case measure => simp [intOf]; omega
        · have EM : Hid (mayH x = false) := Lib.hid (decide_eq_false hm)
          have HNO : Hid (rightT l = false) := Lib.hid (right_no hil (fun hp => hm (by rw [← HXX.out]; exact hp.may i (by omega))))
          clear hm
          go_wp2
          have zc0 : ∀ p : Later wr, p.now.cell? ⟨b, off + i * 4, none⟩ = some (.int .i64 x.id) := fun _ => Later.cell hbl c0
          have zc1 : ∀ p : Later wr, p.now.cell? ⟨b, off + i * 4 + 1, none⟩ = some (.slice A2 m2 c2) := fun _ => Later.cell hbl c1
          have zc2 : ∀ p : Later wr, p.now.cell? ⟨b, off + i * 4 + 2, none⟩ = some (.int .i64 x.frm) := fun _ => Later.cell hbl c2'
          have zc3 : ∀ p : Later wr, p.now.cell? ⟨b, off + i * 4 + 3, none⟩ = some (.int .i64 x.to) := fun _ => Later.cell hbl c3
          refine wp_region_later (by kernel_rfl) (by kernel_rfl) ?_
          repeat (first | go_big_quiet_skip | (go_big_quiet_want; go_big_quiet_op; first | go_big_quiet_on | (apply Exists.intro; refine ⟨fun pz => ?_, ?_⟩; (first | (go_at_call 48; exact Calls.later_of (refMay_b' (HX.out.next pz.bel) EM.out)) | fail); go_big_quiet_on)))
          refine wpQuiet_nil ?_
          intro _ hw'
          obtain ⟨pz, rfl⟩ := hw'
          obtain ⟨w1, hb⟩ := pz
          try dsimp only
          clear zc0 zc1 zc2 zc3
          replace HB := Lib.hid (HB.out.trans (hb.mono HB.out.size))
          replace HX := Lib.hid (HX.out.next hb)
          replace HR := Lib.hid (HR.out.next hb)
          clear hb
          go_wp2
          go_ret
          exact ⟨by rw [HNO.out]; rfl, HB.out⟩
      · have hin : i = n := by omega
        have HYES : Hid (rightT l = true) := Lib.hid (rightT_is.2 (rp_all.2 ⟨by rw [HL.out]; omega, by rw [HL.out, ← hin]; exact HRP.out⟩))
        go_wp2
        go_ret
        exact ⟨by rw [HYES.out]; rfl, HB.out⟩

end Go.Proofs.YtchogijdkagiiaaGreatDoor

namespace Go.Proofs.YtchogijdkagiiaaGreatDoor
open Go.RowKit

theorem hd_ext {a b : Hd} (h1 : a.id = b.id) (h2 : a.frm = b.frm) (h3 : a.to = b.to) (h4 : a.things = b.things) : a = b := by
  cases a; cases b; simp_all
def sameH (a b : Hd) : Bool := decide (a.id = b.id ∧ a.frm = b.frm ∧ a.to = b.to ∧ a.things = b.things)
theorem sameH_iff {a b : Hd} : sameH a b = true ↔ a = b := by
  unfold sameH
  rw [decide_eq_true_eq]
  exact ⟨fun h => hd_ext h.1 h.2.1 h.2.2.1 h.2.2.2, fun h => by subst h; exact ⟨rfl, rfl, rfl, rfl⟩⟩
set_option maxRecDepth 100000 in
set_option maxHeartbeats 8000000 in
theorem refOne_0 (A : Option Addr) (m c : Nat) (A2 : Option Addr) (m2 c2 : Nat) (a b : Hd) (w : World) (ha : HAsk w A m c a) (hb : HAsk w A2 m2 c2 b) (h0 : ¬ a.id = b.id) :
    Calls Tryz.prog 32 #[.agg #[.int .i64 a.id, .slice A m c, .int .i64 a.frm, .int .i64 a.to], .agg #[.int .i64 b.id, .slice A2 m2 c2, .int .i64 b.frm, .int .i64 b.to]] w fun e w' => e = .returned (.bool false) ∧ Below w.heap.size w w' := by
  obtain ⟨W, hW⟩ : ∃ W, W = (w.alloc (hO a A m c)).alloc (hO b A2 m2 c2) := ⟨_, rfl⟩
  have BX : Hid (BoxH W w.heap.size a A m c) := Lib.hid (by rw [hW]; exact (boxH_new w a A m c).next ((Below.refl _ _).alloc (Nat.le_refl _) _))
  have BY : Hid (BoxH W (w.heap.size + 1) b A2 m2 c2) := Lib.hid (by
    have := boxH_new (w.alloc (hO a A m c)) b A2 m2 c2
    rw [show (w.alloc (hO a A m c)).heap.size = w.heap.size + 1 by simp] at this
    rw [hW]; exact this)
  have hb0 : Below w.heap.size w W := by rw [hW]; exact ((Below.refl _ _).alloc (Nat.le_refl _) _).alloc (by simp) _
  have HB := Lib.hid hb0
  have HA := Lib.hid (ha.next hb0)
  have HA2 := Lib.hid (hb.next hb0)
  unfold hO at hW
  have d0 : (a.id == b.id) = false := by simpa using h0
  clear hb0 ha hb h0
  have p0 := BX.out.c0
  have p1 := BX.out.c1
  have p2 := BX.out.c2
  have p3 := BX.out.c3
  have q0 := BY.out.c0
  have q1 := BY.out.c1
  have q2 := BY.out.c2
  have q3 := BY.out.c3
  go_enter Tryz.func32, Tryz.ntmps32
  go_wp2_with fail
  rw [← hW]
  clear hW
  go_wp2
  go_ret
  exact ⟨rfl, HB.out⟩
set_option maxRecDepth 100000 in
set_option maxHeartbeats 8000000 in
theorem refOne_1 (A : Option Addr) (m c : Nat) (A2 : Option Addr) (m2 c2 : Nat) (a b : Hd) (w : World) (ha : HAsk w A m c a) (hb : HAsk w A2 m2 c2 b) (h0 : a.id = b.id) (h1 : ¬ a.frm = b.frm) :
    Calls Tryz.prog 32 #[.agg #[.int .i64 a.id, .slice A m c, .int .i64 a.frm, .int .i64 a.to], .agg #[.int .i64 b.id, .slice A2 m2 c2, .int .i64 b.frm, .int .i64 b.to]] w fun e w' => e = .returned (.bool false) ∧ Below w.heap.size w w' := by
  obtain ⟨W, hW⟩ : ∃ W, W = (w.alloc (hO a A m c)).alloc (hO b A2 m2 c2) := ⟨_, rfl⟩
  have BX : Hid (BoxH W w.heap.size a A m c) := Lib.hid (by rw [hW]; exact (boxH_new w a A m c).next ((Below.refl _ _).alloc (Nat.le_refl _) _))
  have BY : Hid (BoxH W (w.heap.size + 1) b A2 m2 c2) := Lib.hid (by
    have := boxH_new (w.alloc (hO a A m c)) b A2 m2 c2
    rw [show (w.alloc (hO a A m c)).heap.size = w.heap.size + 1 by simp] at this
    rw [hW]; exact this)
  have hb0 : Below w.heap.size w W := by rw [hW]; exact ((Below.refl _ _).alloc (Nat.le_refl _) _).alloc (by simp) _
  have HB := Lib.hid hb0
  have HA := Lib.hid (ha.next hb0)
  have HA2 := Lib.hid (hb.next hb0)
  unfold hO at hW
  have d0 : (a.id == b.id) = true := by simpa using h0
  have d1 : (a.frm == b.frm) = false := by simpa using h1
  clear hb0 ha hb h0 h1
  have p0 := BX.out.c0
  have p1 := BX.out.c1
  have p2 := BX.out.c2
  have p3 := BX.out.c3
  have q0 := BY.out.c0
  have q1 := BY.out.c1
  have q2 := BY.out.c2
  have q3 := BY.out.c3
  go_enter Tryz.func32, Tryz.ntmps32
  go_wp2_with fail
  rw [← hW]
  clear hW
  go_wp2
  go_ret
  exact ⟨rfl, HB.out⟩
set_option maxRecDepth 100000 in
set_option maxHeartbeats 8000000 in
theorem refOne_2 (A : Option Addr) (m c : Nat) (A2 : Option Addr) (m2 c2 : Nat) (a b : Hd) (w : World) (ha : HAsk w A m c a) (hb : HAsk w A2 m2 c2 b) (h0 : a.id = b.id) (h1 : a.frm = b.frm) (h2 : ¬ a.to = b.to) :
    Calls Tryz.prog 32 #[.agg #[.int .i64 a.id, .slice A m c, .int .i64 a.frm, .int .i64 a.to], .agg #[.int .i64 b.id, .slice A2 m2 c2, .int .i64 b.frm, .int .i64 b.to]] w fun e w' => e = .returned (.bool false) ∧ Below w.heap.size w w' := by
  obtain ⟨W, hW⟩ : ∃ W, W = (w.alloc (hO a A m c)).alloc (hO b A2 m2 c2) := ⟨_, rfl⟩
  have BX : Hid (BoxH W w.heap.size a A m c) := Lib.hid (by rw [hW]; exact (boxH_new w a A m c).next ((Below.refl _ _).alloc (Nat.le_refl _) _))
  have BY : Hid (BoxH W (w.heap.size + 1) b A2 m2 c2) := Lib.hid (by
    have := boxH_new (w.alloc (hO a A m c)) b A2 m2 c2
    rw [show (w.alloc (hO a A m c)).heap.size = w.heap.size + 1 by simp] at this
    rw [hW]; exact this)
  have hb0 : Below w.heap.size w W := by rw [hW]; exact ((Below.refl _ _).alloc (Nat.le_refl _) _).alloc (by simp) _
  have HB := Lib.hid hb0
  have HA := Lib.hid (ha.next hb0)
  have HA2 := Lib.hid (hb.next hb0)
  unfold hO at hW
  have d0 : (a.id == b.id) = true := by simpa using h0
  have d1 : (a.frm == b.frm) = true := by simpa using h1
  have d2 : (a.to == b.to) = false := by simpa using h2
  clear hb0 ha hb h0 h1 h2
  have p0 := BX.out.c0
  have p1 := BX.out.c1
  have p2 := BX.out.c2
  have p3 := BX.out.c3
  have q0 := BY.out.c0
  have q1 := BY.out.c1
  have q2 := BY.out.c2
  have q3 := BY.out.c3
  go_enter Tryz.func32, Tryz.ntmps32
  go_wp2_with fail
  rw [← hW]
  clear hW
  go_wp2
  go_ret
  exact ⟨rfl, HB.out⟩
set_option maxRecDepth 100000 in
set_option maxHeartbeats 8000000 in
theorem refOne_3 (A : Option Addr) (m c : Nat) (A2 : Option Addr) (m2 c2 : Nat) (a b : Hd) (w : World) (ha : HAsk w A m c a) (hb : HAsk w A2 m2 c2 b) (h0 : a.id = b.id) (h1 : a.frm = b.frm) (h2 : a.to = b.to) :
    Calls Tryz.prog 32 #[.agg #[.int .i64 a.id, .slice A m c, .int .i64 a.frm, .int .i64 a.to], .agg #[.int .i64 b.id, .slice A2 m2 c2, .int .i64 b.frm, .int .i64 b.to]] w fun e w' => e = .returned (.bool (sameB a.things b.things)) ∧ Below w.heap.size w w' := by
  obtain ⟨W, hW⟩ : ∃ W, W = (w.alloc (hO a A m c)).alloc (hO b A2 m2 c2) := ⟨_, rfl⟩
  have BX : Hid (BoxH W w.heap.size a A m c) := Lib.hid (by rw [hW]; exact (boxH_new w a A m c).next ((Below.refl _ _).alloc (Nat.le_refl _) _))
  have BY : Hid (BoxH W (w.heap.size + 1) b A2 m2 c2) := Lib.hid (by
    have := boxH_new (w.alloc (hO a A m c)) b A2 m2 c2
    rw [show (w.alloc (hO a A m c)).heap.size = w.heap.size + 1 by simp] at this
    rw [hW]; exact this)
  have hb0 : Below w.heap.size w W := by rw [hW]; exact ((Below.refl _ _).alloc (Nat.le_refl _) _).alloc (by simp) _
  have HB := Lib.hid hb0
  have HA := Lib.hid (ha.next hb0)
  have HA2 := Lib.hid (hb.next hb0)
  unfold hO at hW
  have d0 : (a.id == b.id) = true := by simpa using h0
  have d1 : (a.frm == b.frm) = true := by simpa using h1
  have d2 : (a.to == b.to) = true := by simpa using h2
  obtain ⟨v, hv⟩ : ∃ v, sameB a.things b.things = v := ⟨_, rfl⟩
  rw [hv]
  have EV := Lib.hid hv
  clear hv
  clear hb0 ha hb h0 h1 h2
  have p0 := BX.out.c0
  have p1 := BX.out.c1
  have p2 := BX.out.c2
  have p3 := BX.out.c3
  have q0 := BY.out.c0
  have q1 := BY.out.c1
  have q2 := BY.out.c2
  have q3 := BY.out.c3
  go_enter Tryz.func32, Tryz.ntmps32
  go_wp2_with fail
  rw [← hW]
  clear hW
  refine (ri_same HA.out.reads HA2.out.reads HA.out.few HA2.out.few EV.out).mono ?_
  rintro e w1 ⟨rfl, hb⟩
  have HB1 := Lib.hid (HB.out.trans (hb.mono HB.out.size))
  clear hb
  go_wp2
  go_ret
  exact ⟨rfl, HB1.out⟩
theorem refOne_any {A : Option Addr} {m c : Nat} {A2 : Option Addr} {m2 c2 : Nat} {a b : Hd} {w : World} {v : Bool} (ha : HAsk w A m c a) (hb : HAsk w A2 m2 c2 b) (e : sameH a b = v) :
    Calls Tryz.prog 32 #[.agg #[.int .i64 a.id, .slice A m c, .int .i64 a.frm, .int .i64 a.to], .agg #[.int .i64 b.id, .slice A2 m2 c2, .int .i64 b.frm, .int .i64 b.to]] w fun e w' => e = .returned (.bool v) ∧ Below w.heap.size w w' := by
  subst e
  by_cases h0 : a.id = b.id
  · by_cases h1 : a.frm = b.frm
    · by_cases h2 : a.to = b.to
      · have e : sameH a b = sameB a.things b.things := by
          rw [Bool.eq_iff_iff, sameB_iff]
          unfold sameH
          rw [decide_eq_true_eq]
          exact ⟨fun h => h.2.2.2, fun h => ⟨h0, h1, h2, h⟩⟩
        rw [e]
        exact refOne_3 A m c A2 m2 c2 a b w ha hb h0 h1 h2
      · rw [show sameH a b = false from decide_eq_false (fun e => h2 e.2.2.1)]
        exact refOne_2 A m c A2 m2 c2 a b w ha hb h0 h1 h2
    · rw [show sameH a b = false from decide_eq_false (fun e => h1 e.2.1)]
      exact refOne_1 A m c A2 m2 c2 a b w ha hb h0 h1
  · rw [show sameH a b = false from decide_eq_false (fun e => h0 e.1)]
    exact refOne_0 A m c A2 m2 c2 a b w ha hb h0

theorem tb_ext {a b : Tb} {n : Nat} (h1 : a.length = n) (h2 : b.length = n) (h : ∀ j, j < n → a.getD j hd0 = b.getD j hd0) : a = b := by
  apply List.ext_getElem (by omega)
  intro j hj1 hj2
  have := h j (by omega)
  rwa [getD_hd hj1, getD_hd hj2] at this
def sameT' (a b : Tb) : Bool := decide (a.length = b.length ∧ ∀ j, j < a.length → sameH (a.getD j hd0) (b.getD j hd0) = true)
theorem sameT_iff {a b : Tb} : sameT' a b = true ↔ a = b := by
  unfold sameT'
  rw [decide_eq_true_eq]
  constructor
  · rintro ⟨h1, h2⟩
    exact tb_ext rfl h1.symm fun j hj => sameH_iff.1 (h2 j hj)
  · rintro rfl
    exact ⟨rfl, fun j _ => sameH_iff.2 rfl⟩
set_option maxRecDepth 100000 in
set_option maxHeartbeats 8000000 in
theorem refSameT_any (A : Option Addr) (n c : Nat) (A2 : Option Addr) (n2 c2 : Nat) (a b : Tb) (w : World) (ha : RT w w.heap.size A n a) (hb : RT w w.heap.size A2 n2 b) (hn : n ≤ maxLen) (hn2 : n2 ≤ maxLen) :
    Calls Tryz.prog 14 #[.slice A n c, .slice A2 n2 c2] w fun e w' => e = .returned (.bool (sameT' a b)) ∧ Below w.heap.size w w' := by
  have HA0 := Lib.hid ha
  have HB0 := Lib.hid hb
  have LA := Lib.hid ha.len
  have LB := Lib.hid hb.len
  obtain ⟨v, hv⟩ : ∃ v, sameT' a b = v := ⟨_, rfl⟩
  have HV0 := Lib.hid hv
  rw [hv]
  unfold maxLen at hn hn2
  clear ha hb hv
  by_cases hnn : n = n2
  · subst hnn
    have d0 : (n != n) = false := by simp
    go_enter Tryz.func14, Tryz.ntmps14
    go_wp2
    go_loopw [5] (fun kv wr => ∃ k : Nat, k ≤ n ∧ kv = .int .i64 k ∧ (∀ j, j < k → sameH (a.getD j hd0) (b.getD j hd0) = true) ∧ Below w.heap.size w wr) (fun kv _ => n - (intOf kv).toNat)
    case atStart => exact ⟨0, Nat.zero_le _, rfl, fun j hj => absurd hj (by omega), Below.refl _ _⟩
    case round =>
      obtain ⟨k, hk, rfl, hpre, hbel⟩ := hrel
      have HP := Lib.hid hpre
      have HB := Lib.hid hbel
      have HRA := Lib.hid (HA0.out.next hbel)
      have HRB := Lib.hid (HB0.out.next hbel)
      clear hpre hbel
      by_cases hlt : k < n
      · obtain ⟨ba, oa, A3, m3, c3, rfl, hla, c0, c1, c2', c3', hx⟩ := HRA.out.one hlt
        obtain ⟨bb, ob, A4, m4, c4, rfl, hlb, d0', d1, d2, d3, hy⟩ := HRB.out.one hlt
        have d0 := d0'
        clear d0'
        obtain ⟨x, hxx⟩ : ∃ x, a.getD k hd0 = x := ⟨_, rfl⟩
        obtain ⟨y, hyy⟩ : ∃ y, b.getD k hd0 = y := ⟨_, rfl⟩
        rw [hxx] at c0 c2' c3' hx
        rw [hyy] at d0 d2 d3 hy
        have HX := Lib.hid hx
        have HY := Lib.hid hy
        have HXX := Lib.hid hxx
        have HYY := Lib.hid hyy
        clear hx hy hxx hyy
        cases hs : sameH x y with
        | true =>
          have EV := Lib.hid hs
          have HN : Hid (∀ j, j < k + 1 → sameH (a.getD j hd0) (b.getD j hd0) = true) := Lib.hid (fun j hj => by
            by_cases e : j = k
            · subst e; rw [HXX.out, HYY.out]; exact hs
            · exact HP.out j (by omega))
          clear hs
          go_wp2
          have zc0 : ∀ p : Later wr, p.now.cell? ⟨ba, oa + k * 4, none⟩ = some (.int .i64 x.id) := fun _ => Later.cell hla c0
          have zc1 : ∀ p : Later wr, p.now.cell? ⟨ba, oa + k * 4 + 1, none⟩ = some (.slice A3 m3 c3) := fun _ => Later.cell hla c1
          have zc2 : ∀ p : Later wr, p.now.cell? ⟨ba, oa + k * 4 + 2, none⟩ = some (.int .i64 x.frm) := fun _ => Later.cell hla c2'
          have zc3 : ∀ p : Later wr, p.now.cell? ⟨ba, oa + k * 4 + 3, none⟩ = some (.int .i64 x.to) := fun _ => Later.cell hla c3'
          have zc4 : ∀ p : Later wr, p.now.cell? ⟨bb, ob + k * 4, none⟩ = some (.int .i64 y.id) := fun _ => Later.cell hlb d0
          have zc5 : ∀ p : Later wr, p.now.cell? ⟨bb, ob + k * 4 + 1, none⟩ = some (.slice A4 m4 c4) := fun _ => Later.cell hlb d1
          have zc6 : ∀ p : Later wr, p.now.cell? ⟨bb, ob + k * 4 + 2, none⟩ = some (.int .i64 y.frm) := fun _ => Later.cell hlb d2
          have zc7 : ∀ p : Later wr, p.now.cell? ⟨bb, ob + k * 4 + 3, none⟩ = some (.int .i64 y.to) := fun _ => Later.cell hlb d3
          refine wp_region_later (by kernel_rfl) (by kernel_rfl) ?_
          repeat (first | go_big_quiet_skip | (go_big_quiet_want; go_big_quiet_op; first | go_big_quiet_on | (apply Exists.intro; refine ⟨fun pz => ?_, ?_⟩; (first | (go_at_call 32; exact Calls.later_of (refOne_any (HX.out.next pz.bel) (HY.out.next pz.bel) EV.out)) | fail); go_big_quiet_on)))
          refine wpQuiet_nil ?_
          intro _ hw'
          obtain ⟨pz, rfl⟩ := hw'
          obtain ⟨w1, hb⟩ := pz
          try dsimp only
          clear zc0 zc1 zc2 zc3 zc4 zc5 zc6 zc7
          replace HB := Lib.hid (HB.out.trans (hb.mono HB.out.size))
          replace HX := Lib.hid (HX.out.next hb)
          replace HY := Lib.hid (HY.out.next hb)
          clear hb
          go_wp2
          go_roundw
          case rel => exact ⟨k + 1, by omega, by go_num, HN.out, HB.out⟩
          case measure => simp [intOf]; omega
        | false =>
          have EV := Lib.hid hs
          have HV : Hid (v = false) := Lib.hid (by
            rw [← HV0.out]
            exact decide_eq_false (fun h => by have := h.2 k (by rw [LA.out]; exact hlt); rw [HXX.out, HYY.out, hs] at this; cases this))
          clear hs
          go_wp2
          have zc0 : ∀ p : Later wr, p.now.cell? ⟨ba, oa + k * 4, none⟩ = some (.int .i64 x.id) := fun _ => Later.cell hla c0
          have zc1 : ∀ p : Later wr, p.now.cell? ⟨ba, oa + k * 4 + 1, none⟩ = some (.slice A3 m3 c3) := fun _ => Later.cell hla c1
          have zc2 : ∀ p : Later wr, p.now.cell? ⟨ba, oa + k * 4 + 2, none⟩ = some (.int .i64 x.frm) := fun _ => Later.cell hla c2'
          have zc3 : ∀ p : Later wr, p.now.cell? ⟨ba, oa + k * 4 + 3, none⟩ = some (.int .i64 x.to) := fun _ => Later.cell hla c3'
          have zc4 : ∀ p : Later wr, p.now.cell? ⟨bb, ob + k * 4, none⟩ = some (.int .i64 y.id) := fun _ => Later.cell hlb d0
          have zc5 : ∀ p : Later wr, p.now.cell? ⟨bb, ob + k * 4 + 1, none⟩ = some (.slice A4 m4 c4) := fun _ => Later.cell hlb d1
          have zc6 : ∀ p : Later wr, p.now.cell? ⟨bb, ob + k * 4 + 2, none⟩ = some (.int .i64 y.frm) := fun _ => Later.cell hlb d2
          have zc7 : ∀ p : Later wr, p.now.cell? ⟨bb, ob + k * 4 + 3, none⟩ = some (.int .i64 y.to) := fun _ => Later.cell hlb d3
          refine wp_region_later (by kernel_rfl) (by kernel_rfl) ?_
          repeat (first | go_big_quiet_skip | (go_big_quiet_want; go_big_quiet_op; first | go_big_quiet_on | (apply Exists.intro; refine ⟨fun pz => ?_, ?_⟩; (first | (go_at_call 32; exact Calls.later_of (refOne_any (HX.out.next pz.bel) (HY.out.next pz.bel) EV.out)) | fail); go_big_quiet_on)))
          refine wpQuiet_nil ?_
          intro _ hw'
          obtain ⟨pz, rfl⟩ := hw'
          obtain ⟨w1, hb⟩ := pz
          try dsimp only
          clear zc0 zc1 zc2 zc3 zc4 zc5 zc6 zc7
          replace HB := Lib.hid (HB.out.trans (hb.mono HB.out.size))
          replace HX := Lib.hid (HX.out.next hb)
          replace HY := Lib.hid (HY.out.next hb)
          clear hb
          go_wp2
          go_ret
          exact ⟨by rw [HV.out]; rfl, HB.out⟩
      · have hkn : k = n := by omega
        have HV : Hid (v = true) := Lib.hid (by
          rw [← HV0.out]
          exact decide_eq_true ⟨by rw [LA.out, LB.out], fun j hj => HP.out j (by rw [hkn, ← LA.out]; exact hj)⟩)
        go_wp2
        go_ret
        exact ⟨by rw [HV.out]; rfl, HB.out⟩
  · have d0 : (n != n2) = true := by simpa using hnn
    have d1 : ((n : Int) != (n2 : Int)) = true := by simp; omega
    have HV : Hid (v = false) := Lib.hid (by
      rw [← HV0.out]
      exact decide_eq_false (fun h => hnn (by have := h.1; rw [LA.out, LB.out] at this; exact this)))
    go_enter Tryz.func14, Tryz.ntmps14
    go_wp2
    go_ret
    exact ⟨by rw [HV.out]; rfl, Below.refl _ _⟩

/-- the first holding of this number; -1: none is -/
def FirstAtH (l : Tb) (id r : Int) : Prop := (r = -1 ∧ ∀ j, j < l.length → (l.getD j hd0).id ≠ id) ∨ ∃ k : Nat, k < l.length ∧ r = (k : Int) ∧ (l.getD k hd0).id = id ∧ ∀ j, j < k → (l.getD j hd0).id ≠ id
set_option maxRecDepth 100000 in
set_option maxHeartbeats 8000000 in
theorem refAt_any (A : Option Addr) (n c : Nat) (l : Tb) (id : Int) (w : World) (hr : RT w w.heap.size A n l) (hn : n ≤ maxLen) :
    Calls Tryz.prog 53 #[.slice A n c, .int .i64 id] w fun e w' => (∃ r, e = .returned (.int .i64 r) ∧ FirstAtH l id r) ∧ w = w' := by
  have HR := Lib.hid hr
  have HL := Lib.hid hr.len
  unfold maxLen at hn
  clear hr
  go_enter Tryz.func53, Tryz.ntmps53
  go_wp2
  go_loopw [5] (fun kv wr => ∃ k : Nat, k ≤ n ∧ kv = .int .i64 k ∧ (∀ j, j < k → (l.getD j hd0).id ≠ id) ∧ wr = w) (fun kv _ => n - (intOf kv).toNat)
  case atStart => exact ⟨0, Nat.zero_le _, rfl, fun j hj => absurd hj (by omega), rfl⟩
  case round =>
    obtain ⟨k, hk, rfl, hpre, rfl⟩ := hrel
    have HP := Lib.hid hpre
    clear hpre
    by_cases hlt : k < n
    · obtain ⟨b, off, A2, m2, c2, rfl, _, c0, _, _, _, _⟩ := HR.out.one hlt
      obtain ⟨y, hy⟩ : ∃ y, (l.getD k hd0).id = y := ⟨_, rfl⟩
      rw [hy] at c0
      have HY := Lib.hid hy
      clear hy
      by_cases h : y = id
      · have d0 : (y == id) = true := by simpa using h
        have HF : Hid (FirstAtH l id (k : Int)) := Lib.hid (.inr ⟨k, by rw [HL.out]; exact hlt, rfl, by rw [HY.out]; exact h, HP.out⟩)
        clear h
        go_wp2
        go_ret
        exact ⟨⟨_, rfl, HF.out⟩, by trivial⟩
      · have d0 : (y == id) = false := by simpa using h
        have HN : Hid (∀ j, j < k + 1 → (l.getD j hd0).id ≠ id) := Lib.hid (fun j hj => by
          by_cases e : j = k
          · subst e; rw [HY.out]; exact h
          · exact HP.out j (by omega))
        clear h
        go_wp2
        go_roundw
        case rel => exact ⟨k + 1, by omega, by go_num, HN.out, by trivial⟩
        case measure => simp [intOf]; omega
    · have hkn : k = n := by omega
      have HF : Hid (FirstAtH l id (-1)) := Lib.hid (.inl ⟨rfl, fun j hj => HP.out j (by rw [hkn, ← HL.out]; exact hj)⟩)
      go_wp2
      go_ret
      exact ⟨⟨_, rfl, HF.out⟩, by trivial⟩

end Go.Proofs.YtchogijdkagiiaaGreatDoor

namespace Go.Proofs.YtchogijdkagiiaaGreatDoor
open Go.RowKit
open Go.Shelf

theorem pickN_yes {p : Int → Bool} {k : Nat} (h : p (k : Int) = true) : pickN p 0 (k + 1) = pickN p 0 k ++ [(k : Int)] := by
  rw [pickN_snoc, Nat.zero_add, if_pos h]
theorem pickN_no {p : Int → Bool} {k : Nat} (h : p (k : Int) = false) : pickN p 0 (k + 1) = pickN p 0 k := by
  rw [pickN_snoc, Nat.zero_add, h]; simp

/-- where the loop stands -/
def WhichRel (p : Int → Bool) (w : World) (v i : Value) (wr : World) : Prop :=
  ∃ k : Nat, k ≤ 256 ∧ i = .int .i64 k ∧ wr.ownsRow w.heap.size 3 1 v (pickN p 0 k).length ((pickN p 0 k).map (Value.int .i64)) ∧ Below w.heap.size w wr

theorem which_step {p : Int → Bool} {w wr w1 : World} {v v' : Value} {k : Nat} {o : Obj} (hk : k < 256) (hp : p (k : Int) = true) (hb : Below w.heap.size w wr)
    (hown : wr.ownsRow w.heap.size 3 1 v (pickN p 0 k).length ((pickN p 0 k).map (Value.int .i64)))
    (hown' : w1.ownsRow w.heap.size 3 1 v' ((pickN p 0 k).length + 1) ((pickN p 0 k).map (Value.int .i64) ++ [.int .i64 (k : Int)])) (hgrow : (wr.alloc o).grownBy w1 v.ownBlock) :
    WhichRel p w v' (.int .i64 ((k : Int) + 1)) w1 := by
  refine ⟨k + 1, by omega, by go_num, ?_, (hb.alloc hb.size o).grown hgrow (by have := hb.size; simp; omega) (fun j hj => (hown.lt j hj).1)⟩
  rw [pickN_yes hp, List.length_append, List.map_append]
  exact hown'

set_option maxRecDepth 100000 in
set_option maxHeartbeats 4000000 in
theorem which_0 (A A' : Option Addr) (n c n' c' : Nat) (xs ys : List Int) (w : World) (hr : RI w w.heap.size A n xs) (hr' : RI w w.heap.size A' n' ys) (hn : n ≤ maxLen) (hn' : n' ≤ maxLen) (hx : rightB xs = true) (hy : rightB ys = true) :
    Calls Tryz.prog 94 #[.slice A n c, .slice A' n' c', .int .i64 0] w (IPostN (whichL 0 xs ys) w) := by
  have HX := Lib.hid hx
  have HY := Lib.hid hy
  have HL : Hid (whichL 0 xs ys = pickL (keeps 0 xs ys)) := Lib.hid (by unfold whichL; rw [hx, hy]; rfl)
  clear hx hy
  obtain ⟨i0, hi, hz0, hz1, hz2⟩ := info_parts int_info
  go_enter Tryz.func94, Tryz.ntmps94
  go_wp2_with fail
  refine (refRight_any _ _ _ xs _ _ hr hn).mono ?_
  rintro e w1 ⟨rfl, q1, rfl⟩
  rw [HX.out]
  go_wp2_with fail
  refine (refRight_any _ _ _ ys _ _ (hr'.drewN q1) hn').mono ?_
  rintro e w1 ⟨rfl, q2, rfl⟩
  rw [HY.out]
  go_wp2
  go_loopw [7, 8] (fun v i wr => WhichRel (keeps 0 xs ys) w v i wr) (fun _ i _ => 256 - (intOf i).toNat)
  case atStart => exact ⟨0, by omega, rfl, World.ownsRow_nil _ _ _ _, ⟨rfl, rfl, rfl, Nat.le_refl _, fun _ _ => rfl⟩⟩
  case round =>
    obtain ⟨k, hk, rfl, hown, hb⟩ := hrel
    by_cases hlt : k < 256
    · have hd : decide ((k : Int) < 256) = true := by simp; omega
      have hlen := pickN_len (keeps 0 xs ys) k
      have hr1 := Lib.hid (hr.below hb)
      have hr2 := Lib.hid (hr'.below hb)
      have HK : Hid (keeps 0 xs ys (k : Int) = (inB xs k || inB ys k)) := Lib.hid rfl
      clear hr hr'
      go_wp2_with fail
      refine (in_any _ _ _ xs _ _ _ hr1.out hn).mono ?_
      rintro e w1 ⟨rfl, rfl⟩
      go_wp2_with fail
      refine (in_any _ _ _ ys _ _ _ hr2.out hn').mono ?_
      rintro e w1 ⟨rfl, rfl⟩
      have hstep := Lib.hid (fun hp w1 v' o a b => @which_step (keeps 0 xs ys) w wr w1 _ v' k o hlt hp hb hown a b)
      have hskip : Hid (keeps 0 xs ys (k : Int) = false → pickN (keeps 0 xs ys) 0 (k + 1) = pickN (keeps 0 xs ys) 0 k) := Lib.hid pickN_no
      generalize inB xs k = x at *
      generalize inB ys k = y at *
      generalize keeps 0 xs ys (k : Int) = z at *
      generalize pickN (keeps 0 xs ys) 0 k = L at *
      rcases x with _ | _ <;> rcases y with _ | _
      · have hz : z = false := HK.out
        subst hz
        have hp := Lib.hid (hskip.out rfl)
        clear hskip hstep
        go_wp2
        go_roundw
        case rel => exact ⟨k + 1, by omega, by go_num, by rw [hp.out]; exact hown, hb⟩
        case measure => simp [intOf]; omega
      · have hz : z = true := HK.out
        subst hz
        go_wp2_with (at_builtin; refine wpList_append_own _ rfl (.tmp 58) (.tmp 60) 23 rfl w.heap.size 3 i0 (.int .i64 0) 1 8 Tryz.underlying23 hi hz0 hz1 hz2 rfl (by decide) _ _ _ rfl (hown.alloc _) ⟨wr.heap.size, 0, none⟩ 1 1 [.int .i64 (k : Int)] rfl rfl (by intro j u hj; match j, hj with | 0, hj => simp at hj; subst hj; simp [Addr.add]) (by intro u hu; simp at hu; subst hu; rfl) (by unfold maxLen; omega) (by omega) (by have := hb.size; simp; omega) ?_; intro v' w2 hown' hgrow _; refine Hid.out ?_)
        refine Lib.hid ?_
        have R := Lib.hid (hstep.out (by first | rfl | trivial) w2 v' _ hown' hgrow)
        clear hown' hgrow hskip hstep
        go_wp2
        go_roundw
        case rel => exact R.out
        case measure => simp [intOf]; omega
      · have hz : z = true := HK.out
        subst hz
        go_wp2_with (at_builtin; refine wpList_append_own _ rfl (.tmp 58) (.tmp 60) 23 rfl w.heap.size 3 i0 (.int .i64 0) 1 8 Tryz.underlying23 hi hz0 hz1 hz2 rfl (by decide) _ _ _ rfl (hown.alloc _) ⟨wr.heap.size, 0, none⟩ 1 1 [.int .i64 (k : Int)] rfl rfl (by intro j u hj; match j, hj with | 0, hj => simp at hj; subst hj; simp [Addr.add]) (by intro u hu; simp at hu; subst hu; rfl) (by unfold maxLen; omega) (by omega) (by have := hb.size; simp; omega) ?_; intro v' w2 hown' hgrow _; refine Hid.out ?_)
        refine Lib.hid ?_
        have R := Lib.hid (hstep.out (by first | rfl | trivial) w2 v' _ hown' hgrow)
        clear hown' hgrow hskip hstep
        go_wp2
        go_roundw
        case rel => exact R.out
        case measure => simp [intOf]; omega
      · have hz : z = true := HK.out
        subst hz
        go_wp2_with (at_builtin; refine wpList_append_own _ rfl (.tmp 58) (.tmp 60) 23 rfl w.heap.size 3 i0 (.int .i64 0) 1 8 Tryz.underlying23 hi hz0 hz1 hz2 rfl (by decide) _ _ _ rfl (hown.alloc _) ⟨wr.heap.size, 0, none⟩ 1 1 [.int .i64 (k : Int)] rfl rfl (by intro j u hj; match j, hj with | 0, hj => simp at hj; subst hj; simp [Addr.add]) (by intro u hu; simp at hu; subst hu; rfl) (by unfold maxLen; omega) (by omega) (by have := hb.size; simp; omega) ?_; intro v' w2 hown' hgrow _; refine Hid.out ?_)
        refine Lib.hid ?_
        have R := Lib.hid (hstep.out (by first | rfl | trivial) w2 v' _ hown' hgrow)
        clear hown' hgrow hskip hstep
        go_wp2
        go_roundw
        case rel => exact R.out
        case measure => simp [intOf]; omega
    · have hkn : k = 256 := by omega
      subst hkn
      go_wp2
      go_ret
      rw [HL.out]
      exact ipostn_own hown (Nat.le_refl _) hb

set_option maxRecDepth 100000 in
set_option maxHeartbeats 4000000 in
theorem which_1 (A A' : Option Addr) (n c n' c' : Nat) (xs ys : List Int) (w : World) (hr : RI w w.heap.size A n xs) (hr' : RI w w.heap.size A' n' ys) (hn : n ≤ maxLen) (hn' : n' ≤ maxLen) (hx : rightB xs = true) (hy : rightB ys = true) :
    Calls Tryz.prog 94 #[.slice A n c, .slice A' n' c', .int .i64 1] w (IPostN (whichL 1 xs ys) w) := by
  have HX := Lib.hid hx
  have HY := Lib.hid hy
  have HL : Hid (whichL 1 xs ys = pickL (keeps 1 xs ys)) := Lib.hid (by unfold whichL; rw [hx, hy]; rfl)
  clear hx hy
  obtain ⟨i0, hi, hz0, hz1, hz2⟩ := info_parts int_info
  go_enter Tryz.func94, Tryz.ntmps94
  go_wp2_with fail
  refine (refRight_any _ _ _ xs _ _ hr hn).mono ?_
  rintro e w1 ⟨rfl, q1, rfl⟩
  rw [HX.out]
  go_wp2_with fail
  refine (refRight_any _ _ _ ys _ _ (hr'.drewN q1) hn').mono ?_
  rintro e w1 ⟨rfl, q2, rfl⟩
  rw [HY.out]
  go_wp2
  go_loopw [7, 8] (fun v i wr => WhichRel (keeps 1 xs ys) w v i wr) (fun _ i _ => 256 - (intOf i).toNat)
  case atStart => exact ⟨0, by omega, rfl, World.ownsRow_nil _ _ _ _, ⟨rfl, rfl, rfl, Nat.le_refl _, fun _ _ => rfl⟩⟩
  case round =>
    obtain ⟨k, hk, rfl, hown, hb⟩ := hrel
    by_cases hlt : k < 256
    · have hd : decide ((k : Int) < 256) = true := by simp; omega
      have hlen := pickN_len (keeps 1 xs ys) k
      have hr1 := Lib.hid (hr.below hb)
      have hr2 := Lib.hid (hr'.below hb)
      have HK : Hid (keeps 1 xs ys (k : Int) = (inB xs k && inB ys k)) := Lib.hid rfl
      clear hr hr'
      go_wp2_with fail
      refine (in_any _ _ _ xs _ _ _ hr1.out hn).mono ?_
      rintro e w1 ⟨rfl, rfl⟩
      go_wp2_with fail
      refine (in_any _ _ _ ys _ _ _ hr2.out hn').mono ?_
      rintro e w1 ⟨rfl, rfl⟩
      have hstep := Lib.hid (fun hp w1 v' o a b => @which_step (keeps 1 xs ys) w wr w1 _ v' k o hlt hp hb hown a b)
      have hskip : Hid (keeps 1 xs ys (k : Int) = false → pickN (keeps 1 xs ys) 0 (k + 1) = pickN (keeps 1 xs ys) 0 k) := Lib.hid pickN_no
      generalize inB xs k = x at *
      generalize inB ys k = y at *
      generalize keeps 1 xs ys (k : Int) = z at *
      generalize pickN (keeps 1 xs ys) 0 k = L at *
      rcases x with _ | _ <;> rcases y with _ | _
      · have hz : z = false := HK.out
        subst hz
        have hp := Lib.hid (hskip.out rfl)
        clear hskip hstep
        go_wp2
        go_roundw
        case rel => exact ⟨k + 1, by omega, by go_num, by rw [hp.out]; exact hown, hb⟩
        case measure => simp [intOf]; omega
      · have hz : z = false := HK.out
        subst hz
        have hp := Lib.hid (hskip.out rfl)
        clear hskip hstep
        go_wp2
        go_roundw
        case rel => exact ⟨k + 1, by omega, by go_num, by rw [hp.out]; exact hown, hb⟩
        case measure => simp [intOf]; omega
      · have hz : z = false := HK.out
        subst hz
        have hp := Lib.hid (hskip.out rfl)
        clear hskip hstep
        go_wp2
        go_roundw
        case rel => exact ⟨k + 1, by omega, by go_num, by rw [hp.out]; exact hown, hb⟩
        case measure => simp [intOf]; omega
      · have hz : z = true := HK.out
        subst hz
        go_wp2_with (at_builtin; refine wpList_append_own _ rfl (.tmp 58) (.tmp 60) 23 rfl w.heap.size 3 i0 (.int .i64 0) 1 8 Tryz.underlying23 hi hz0 hz1 hz2 rfl (by decide) _ _ _ rfl (hown.alloc _) ⟨wr.heap.size, 0, none⟩ 1 1 [.int .i64 (k : Int)] rfl rfl (by intro j u hj; match j, hj with | 0, hj => simp at hj; subst hj; simp [Addr.add]) (by intro u hu; simp at hu; subst hu; rfl) (by unfold maxLen; omega) (by omega) (by have := hb.size; simp; omega) ?_; intro v' w2 hown' hgrow _; refine Hid.out ?_)
        refine Lib.hid ?_
        have R := Lib.hid (hstep.out (by first | rfl | trivial) w2 v' _ hown' hgrow)
        clear hown' hgrow hskip hstep
        go_wp2
        go_roundw
        case rel => exact R.out
        case measure => simp [intOf]; omega
    · have hkn : k = 256 := by omega
      subst hkn
      go_wp2
      go_ret
      rw [HL.out]
      exact ipostn_own hown (Nat.le_refl _) hb

set_option maxRecDepth 100000 in
set_option maxHeartbeats 4000000 in
theorem which_2 (A A' : Option Addr) (n c n' c' : Nat) (xs ys : List Int) (w : World) (hr : RI w w.heap.size A n xs) (hr' : RI w w.heap.size A' n' ys) (hn : n ≤ maxLen) (hn' : n' ≤ maxLen) (hx : rightB xs = true) (hy : rightB ys = true) :
    Calls Tryz.prog 94 #[.slice A n c, .slice A' n' c', .int .i64 2] w (IPostN (whichL 2 xs ys) w) := by
  have HX := Lib.hid hx
  have HY := Lib.hid hy
  have HL : Hid (whichL 2 xs ys = pickL (keeps 2 xs ys)) := Lib.hid (by unfold whichL; rw [hx, hy]; rfl)
  clear hx hy
  obtain ⟨i0, hi, hz0, hz1, hz2⟩ := info_parts int_info
  go_enter Tryz.func94, Tryz.ntmps94
  go_wp2_with fail
  refine (refRight_any _ _ _ xs _ _ hr hn).mono ?_
  rintro e w1 ⟨rfl, q1, rfl⟩
  rw [HX.out]
  go_wp2_with fail
  refine (refRight_any _ _ _ ys _ _ (hr'.drewN q1) hn').mono ?_
  rintro e w1 ⟨rfl, q2, rfl⟩
  rw [HY.out]
  go_wp2
  go_loopw [7, 8] (fun v i wr => WhichRel (keeps 2 xs ys) w v i wr) (fun _ i _ => 256 - (intOf i).toNat)
  case atStart => exact ⟨0, by omega, rfl, World.ownsRow_nil _ _ _ _, ⟨rfl, rfl, rfl, Nat.le_refl _, fun _ _ => rfl⟩⟩
  case round =>
    obtain ⟨k, hk, rfl, hown, hb⟩ := hrel
    by_cases hlt : k < 256
    · have hd : decide ((k : Int) < 256) = true := by simp; omega
      have hlen := pickN_len (keeps 2 xs ys) k
      have hr1 := Lib.hid (hr.below hb)
      have hr2 := Lib.hid (hr'.below hb)
      have HK : Hid (keeps 2 xs ys (k : Int) = (inB xs k && !inB ys k)) := Lib.hid rfl
      clear hr hr'
      go_wp2_with fail
      refine (in_any _ _ _ xs _ _ _ hr1.out hn).mono ?_
      rintro e w1 ⟨rfl, rfl⟩
      go_wp2_with fail
      refine (in_any _ _ _ ys _ _ _ hr2.out hn').mono ?_
      rintro e w1 ⟨rfl, rfl⟩
      have hstep := Lib.hid (fun hp w1 v' o a b => @which_step (keeps 2 xs ys) w wr w1 _ v' k o hlt hp hb hown a b)
      have hskip : Hid (keeps 2 xs ys (k : Int) = false → pickN (keeps 2 xs ys) 0 (k + 1) = pickN (keeps 2 xs ys) 0 k) := Lib.hid pickN_no
      generalize inB xs k = x at *
      generalize inB ys k = y at *
      generalize keeps 2 xs ys (k : Int) = z at *
      generalize pickN (keeps 2 xs ys) 0 k = L at *
      rcases x with _ | _ <;> rcases y with _ | _
      · have hz : z = false := HK.out
        subst hz
        have hp := Lib.hid (hskip.out rfl)
        clear hskip hstep
        go_wp2
        go_roundw
        case rel => exact ⟨k + 1, by omega, by go_num, by rw [hp.out]; exact hown, hb⟩
        case measure => simp [intOf]; omega
      · have hz : z = false := HK.out
        subst hz
        have hp := Lib.hid (hskip.out rfl)
        clear hskip hstep
        go_wp2
        go_roundw
        case rel => exact ⟨k + 1, by omega, by go_num, by rw [hp.out]; exact hown, hb⟩
        case measure => simp [intOf]; omega
      · have hz : z = true := HK.out
        subst hz
        go_wp2_with (at_builtin; refine wpList_append_own _ rfl (.tmp 58) (.tmp 60) 23 rfl w.heap.size 3 i0 (.int .i64 0) 1 8 Tryz.underlying23 hi hz0 hz1 hz2 rfl (by decide) _ _ _ rfl (hown.alloc _) ⟨wr.heap.size, 0, none⟩ 1 1 [.int .i64 (k : Int)] rfl rfl (by intro j u hj; match j, hj with | 0, hj => simp at hj; subst hj; simp [Addr.add]) (by intro u hu; simp at hu; subst hu; rfl) (by unfold maxLen; omega) (by omega) (by have := hb.size; simp; omega) ?_; intro v' w2 hown' hgrow _; refine Hid.out ?_)
        refine Lib.hid ?_
        have R := Lib.hid (hstep.out (by first | rfl | trivial) w2 v' _ hown' hgrow)
        clear hown' hgrow hskip hstep
        go_wp2
        go_roundw
        case rel => exact R.out
        case measure => simp [intOf]; omega
      · have hz : z = false := HK.out
        subst hz
        have hp := Lib.hid (hskip.out rfl)
        clear hskip hstep
        go_wp2
        go_roundw
        case rel => exact ⟨k + 1, by omega, by go_num, by rw [hp.out]; exact hown, hb⟩
        case measure => simp [intOf]; omega
    · have hkn : k = 256 := by omega
      subst hkn
      go_wp2
      go_ret
      rw [HL.out]
      exact ipostn_own hown (Nat.le_refl _) hb

theorem which_no (how : Int) (A A' : Option Addr) (n c n' c' : Nat) (xs ys : List Int) (w : World) (hr : RI w w.heap.size A n xs) (hr' : RI w w.heap.size A' n' ys) (hn : n ≤ maxLen) (hn' : n' ≤ maxLen) (hno : (rightB xs && rightB ys) = false) :
    Calls Tryz.prog 94 #[.slice A n c, .slice A' n' c', .int .i64 how] w (IPostN [] w) := by
  have HN := Lib.hid hno
  clear hno
  go_enter Tryz.func94, Tryz.ntmps94
  go_wp2_with fail
  refine (refRight_any _ _ _ xs _ _ hr hn).mono ?_
  rintro e w1 ⟨rfl, q1, rfl⟩
  cases hx : rightB xs with
  | false =>
    clear hx
    go_wp2
    go_ret
    exact ipostn_nil ⟨rfl, rfl, rfl, Nat.le_refl _, fun _ _ => rfl⟩
  | true =>
    have hy : Hid (rightB ys = false) := Lib.hid (by have := HN.out; rw [hx] at this; simpa using this)
    clear hx
    go_wp2_with fail
    refine (refRight_any _ _ _ ys _ _ (hr'.drewN q1) hn').mono ?_
    rintro e w1 ⟨rfl, q2, rfl⟩
    rw [hy.out]
    go_wp2
    go_ret
    exact ipostn_nil ⟨rfl, rfl, rfl, Nat.le_refl _, fun _ _ => rfl⟩

theorem which_postN (how : Nat) (h : Int) (hhow : (how = 0 ∧ h = 0) ∨ (how = 1 ∧ h = 1) ∨ (how = 2 ∧ h = 2)) (A A' : Option Addr) (n c n' c' : Nat) (xs ys : List Int) (w : World) (hr : RI w w.heap.size A n xs) (hr' : RI w w.heap.size A' n' ys) (hn : n ≤ maxLen) (hn' : n' ≤ maxLen) :
    Calls Tryz.prog 94 #[.slice A n c, .slice A' n' c', .int .i64 h] w (IPostN (whichL how xs ys) w) := by
  by_cases hxy : (rightB xs && rightB ys) = true
  · have hxy' : rightB xs = true ∧ rightB ys = true := by simpa using hxy
    rcases hhow with ⟨rfl, rfl⟩ | ⟨rfl, rfl⟩ | ⟨rfl, rfl⟩
    · exact which_0 A A' n c n' c' xs ys w hr hr' hn hn' hxy'.1 hxy'.2
    · exact which_1 A A' n c n' c' xs ys w hr hr' hn hn' hxy'.1 hxy'.2
    · exact which_2 A A' n c n' c' xs ys w hr hr' hn hn' hxy'.1 hxy'.2
  · rw [whichL_wrong (by simpa using hxy)]
    exact which_no h A A' n c n' c' xs ys w hr hr' hn hn' (by simpa using hxy)
end Go.Proofs.YtchogijdkagiiaaGreatDoor

namespace Go.Proofs.YtchogijdkagiiaaGreatDoor
open Go.RowKit

theorem refRightT_b {A : Option Addr} {n c : Nat} {l : Tb} {w : World} {v : Bool} (hr : RT w w.heap.size A n l) (hn : n ≤ maxLen) (h : rightT l = v) :
    Calls Tryz.prog 28 #[.slice A n c] w fun e w' => e = .returned (.bool v) ∧ Below w.heap.size w w' := by
  subst h; exact refRightT_any A n c l w hr hn

def shortT (l : Tb) : Bool := decide (l.length ≤ 30 ∧ ∀ j, j < l.length → (l.getD j hd0).things.length ≤ 60)
set_option maxRecDepth 100000 in
set_option maxHeartbeats 8000000 in
theorem refShortT_any (A : Option Addr) (n c : Nat) (l : Tb) (w : World) (hr : RT w w.heap.size A n l) (hn : n ≤ maxLen) :
    Calls Tryz.prog 11 #[.slice A n c] w fun e w' => e = .returned (.bool (shortT l)) ∧ w = w' := by
  have HR := Lib.hid hr
  have HL := Lib.hid hr.len
  obtain ⟨v, hv⟩ : ∃ v, shortT l = v := ⟨_, rfl⟩
  have HV0 := Lib.hid hv
  rw [hv]
  unfold maxLen at hn
  clear hr hv
  by_cases h30 : 30 < n
  · have d0 : decide (30 < n) = true := decide_eq_true h30
    have HV : Hid (v = false) := Lib.hid (by rw [← HV0.out]; exact decide_eq_false (fun h => by have := h.1; rw [HL.out] at this; omega))
    go_enter Tryz.func11, Tryz.ntmps11
    go_wp2
    go_ret
    exact ⟨by rw [HV.out]; rfl, rfl⟩
  · have d0 : decide (30 < n) = false := decide_eq_false h30
    go_enter Tryz.func11, Tryz.ntmps11
    go_wp2
    go_loopw [3] (fun kv wr => ∃ k : Nat, k ≤ n ∧ kv = .int .i64 k ∧ (∀ j, j < k → (l.getD j hd0).things.length ≤ 60) ∧ wr = w) (fun kv _ => n - (intOf kv).toNat)
    case atStart => exact ⟨0, Nat.zero_le _, rfl, fun j hj => absurd hj (by omega), rfl⟩
    case round =>
      obtain ⟨k, hk, rfl, hpre, rfl⟩ := hrel
      have HP := Lib.hid hpre
      clear hpre
      by_cases hlt : k < n
      · obtain ⟨b, off, A2, m2, c2, rfl, _, _, c1, _, _, hx⟩ := HR.out.one hlt
        have hm := hx.reads.1
        have hm2 := hx.few
        clear hx
        unfold maxLen at hm2
        by_cases h : 60 < m2
        · have d1 : decide (60 < m2) = true := decide_eq_true h
          have HV : Hid (v = false) := Lib.hid (by rw [← HV0.out]; exact decide_eq_false (fun h' => by have := h'.2 k (by rw [HL.out]; exact hlt); omega))
          clear hm
          go_wp2
          go_ret
          exact ⟨by rw [HV.out]; rfl, by trivial⟩
        · have d1 : decide (60 < m2) = false := decide_eq_false h
          have HN : Hid (∀ j, j < k + 1 → (l.getD j hd0).things.length ≤ 60) := Lib.hid (fun j hj => by
            by_cases e : j = k
            · subst e; omega
            · exact HP.out j (by omega))
          clear hm
          go_wp2
          go_roundw
          case rel => exact ⟨k + 1, by omega, by go_num, HN.out, by trivial⟩
          case measure => simp [intOf]; omega
      · have hkn : k = n := by omega
        have HV : Hid (v = true) := Lib.hid (by rw [← HV0.out]; exact decide_eq_true ⟨by rw [HL.out]; omega, fun j hj => HP.out j (by rw [hkn, ← HL.out]; exact hj)⟩)
        go_wp2
        go_ret
        exact ⟨by rw [HV.out]; rfl, by trivial⟩

end Go.Proofs.YtchogijdkagiiaaGreatDoor

namespace Go.Proofs.YtchogijdkagiiaaGreatDoor
open Go.RowKit

section
variable {α : Type} {E : Elem α} {t : TypeId} {w wr w1 : World} {g n cap : Nat} {xs : List α}
/-- an element of a row of one's own is stored anew -/
theorem ON.set4 (hE : Steady E) (h : ON E 4 t w (.slice (some ⟨g, 0, none⟩) n cap) xs wr) {i : Nat} (hi : i < xs.length) {x : α} {v0 v1 v2 v3 : Value} (hx : E wr (fun b => b < wr.heap.size ∧ b ≠ g) x [v0, v1, v2, v3]) :
    ON E 4 t w (.slice (some ⟨g, 0, none⟩) n cap) (xs.set i x) ((((wr.setCell ⟨g, i * 4, none⟩ v0).setCell ⟨g, i * 4 + 1, none⟩ v1).setCell ⟨g, i * 4 + 2, none⟩ v2).setCell ⟨g, i * 4 + 3, none⟩ v3) := by
  obtain ⟨fl, h1, h2, h3⟩ := h
  have hn : n = xs.length := by
    rcases h1.2 with ⟨e, _⟩ | ⟨g', cap', cur, e, _⟩
    · cases e
    · injection e
  subst hn
  have hfl := h1.1
  have s0 := (h1.stored (i * 4) v0).1
  have s1 := (s0.stored (i * 4 + 1) v1).1
  have s2 := (s1.stored (i * 4 + 2) v2).1
  have s3 := (s2.stored (i * 4 + 3) v3).1
  have hgb : w.heap.size ≤ g := (h1.lt g rfl).1
  have hk : ∀ b, b ≠ g → ((((wr.setCell ⟨g, i * 4, none⟩ v0).setCell ⟨g, i * 4 + 1, none⟩ v1).setCell ⟨g, i * 4 + 2, none⟩ v2).setCell ⟨g, i * 4 + 3, none⟩ v3).heap[b]? = wr.heap[b]? := fun b hb => by
    rw [Below.heap_setCell _ _ _ _ hb, Below.heap_setCell _ _ _ _ hb, Below.heap_setCell _ _ _ _ hb, Below.heap_setCell _ _ _ _ hb]
  have hsz : ((((wr.setCell ⟨g, i * 4, none⟩ v0).setCell ⟨g, i * 4 + 1, none⟩ v1).setCell ⟨g, i * 4 + 2, none⟩ v2).setCell ⟨g, i * 4 + 3, none⟩ v3).heap.size = wr.heap.size := by simp [World.setCell]
  refine ⟨_, by rw [List.length_set]; exact s3, (((h2.setCell (p := ⟨g, _, none⟩) hgb v0).setCell (p := ⟨g, _, none⟩) hgb v1).setCell (p := ⟨g, _, none⟩) hgb v2).setCell (p := ⟨g, _, none⟩) hgb v3, fun j y hy => ?_⟩
  have hj : j < xs.length := by have := (List.getElem?_eq_some_iff.1 hy).1; rwa [List.length_set] at this
  by_cases hji : j = i
  · subst hji
    rw [List.getElem?_set_self hj] at hy
    have hy' : x = y := by simpa using hy
    subst hy'
    have e : ((((((fl.set (j * 4) v0).set (j * 4 + 1) v1).set (j * 4 + 2) v2).set (j * 4 + 3) v3).drop (j * 4)).take 4) = [v0, v1, v2, v3] := by
      apply List.ext_getElem?
      intro k
      match k with
      | 0 => simp [List.getElem?_drop, List.getElem?_set]; omega
      | 1 => simp [List.getElem?_drop, List.getElem?_set]; omega
      | 2 => simp [List.getElem?_drop, List.getElem?_set]; omega
      | 3 => simp [List.getElem?_drop, List.getElem?_set]; omega
      | k + 4 => simp [List.getElem?_take]; omega
    rw [e]
    exact hE.keep hx (fun b hb => hk b hb.2) (fun b hb => ⟨by rw [hsz]; exact hb.1, fun e => by
      have e' : g = b := by simpa [Value.ownBlock] using e
      exact hb.2 e'.symm⟩)
  · rw [List.getElem?_set_ne (fun e => hji e.symm)] at hy
    have e : ((((((fl.set (i * 4) v0).set (i * 4 + 1) v1).set (i * 4 + 2) v2).set (i * 4 + 3) v3).drop (j * 4)).take 4) = (fl.drop (j * 4)).take 4 := by
      apply List.ext_getElem?
      intro k
      rw [List.getElem?_take, List.getElem?_take]
      split
      · rw [List.getElem?_drop, List.getElem?_drop, List.getElem?_set_ne (by omega), List.getElem?_set_ne (by omega), List.getElem?_set_ne (by omega), List.getElem?_set_ne (by omega)]
      · rfl
    rw [e]
    refine hE.keep (h3 j y hy) (fun b hb => hk b (fun e => hb.2 (by rw [e]; rfl))) (fun b hb => ⟨by rw [hsz]; exact hb.1, hb.2⟩)
end
/-- a table's cells are one cell each -/
theorem flat_one {ok : Nat → Prop} {w : World} {l : Tb} {fl : List Value} (h1 : fl.length = l.length * 4) (h : ∀ j x, l[j]? = some x → EH w ok x ((fl.drop (j * 4)).take 4)) : ∀ u ∈ fl, u.oneCell' = true := by
  intro u hu
  obtain ⟨k, hk, rfl⟩ := List.getElem_of_mem hu
  have hj : k / 4 < l.length := by omega
  obtain ⟨A, m, c, hv, _⟩ := h (k / 4) _ (List.getElem?_eq_getElem hj)
  have e : ((fl.drop (k / 4 * 4)).take 4)[k % 4]? = some fl[k] := by
    rw [List.getElem?_take_of_lt (by omega), List.getElem?_drop, show k / 4 * 4 + k % 4 = k by omega, List.getElem?_eq_getElem hk]
  rw [hv] at e
  have h4 : k % 4 < 4 := Nat.mod_lt _ (by omega)
  rcases (show k % 4 = 0 ∨ k % 4 = 1 ∨ k % 4 = 2 ∨ k % 4 = 3 by omega) with h0 | h0 | h0 | h0
  all_goals
    rw [h0] at e
    have e' := Option.some.inj e
    rw [← e']
    rfl

end Go.Proofs.YtchogijdkagiiaaGreatDoor

namespace Go.Proofs.YtchogijdkagiiaaGreatDoor
open Go.RowKit

set_option maxRecDepth 100000 in
set_option maxHeartbeats 2000000 in
/-- a clone of numbers lies in memory of its own -/
theorem clone_any (A : Option Addr) (n c : Nat) (xs : List Int) (w : World) (hr : RI w w.heap.size A n xs) (hnil : A = none → c = 0) (hn : n ≤ 1000) :
    Calls Tryz.prog 69 #[.slice A n c] w fun e w' => ∃ v, e = .returned v ∧ ON EI 1 3 w v xs w' := by
  obtain ⟨i0, hi0, hz0, hz1, hz2⟩ := info_parts int_info
  have HR := Lib.hid hr
  cases A with
  | none =>
    obtain rfl := hnil rfl
    have hn0 : n = 0 := by
      rcases Nat.eq_zero_or_pos n with h0 | h0
      · exact h0
      · obtain ⟨b, off, e', _⟩ := hr.2 h0; cases e'
    subst hn0
    have hxs : Hid (xs = []) := Lib.hid (List.eq_nil_of_length_eq_zero hr.1)
    have q22 : ∀ (w : World) (a : Option Addr) (n c n' c' : Nat), (binOp .eql 23 (.slice a n c) (.slice none n' c')).run Tryz.prog w = .ok (.bool a.isNone) w := fun w a n c n' c' => Lib.run_eql_slice_nil w _ _ a n c n' c' Tryz.underlying23
    clear hr hnil hn
    go_enter Tryz.func69, Tryz.ntmps69
    go_wp2
    go_ret
    exact ⟨_, rfl, by rw [hxs.out]; exact ON.nil _⟩
  | some ad =>
    have q22 : ∀ (w : World) (a : Option Addr) (n c n' c' : Nat), (binOp .eql 23 (.slice a n c) (.slice none n' c')).run Tryz.prog w = .ok (.bool a.isNone) w := fun w a n c n' c' => Lib.run_eql_slice_nil w _ _ a n c n' c' Tryz.underlying23
    clear hr hnil
    have HR1 : Hid (RI (w.alloc (.cells #[] 3)) (w.alloc (.cells #[] 3)).heap.size (some ad) n xs) := Lib.hid (HR.out.next ((Below.refl _ _).alloc (Nat.le_refl _) _))
    go_enter Tryz.func69, Tryz.ntmps69
    go_wp2_with (at_builtin; refine wpList_append_RI _ rfl _ _ 23 rfl w.heap.size 3 i0 (.int .i64 0) 8 Tryz.underlying23 hi0 hz0 hz1 hz2 rfl (.slice (some ⟨w.heap.size, 0, none⟩) 0 0) 0 [] rfl (World.ownsRow_made w #[] 0 (Nat.le_refl _) (Nat.zero_le _) rfl) _ _ n c xs rfl HR1.out (fun e => by cases e) (by unfold maxLen; omega) (by omega) (by simp) ?_; intro v' w1 hown hgrow; refine Hid.out ?_)
    refine Lib.hid ?_
    have HO : Hid (ON EI 1 3 w v' xs w1) := Lib.hid (own_on (by have h := hown; have hl := HR.out.1; rw [Nat.zero_add, List.nil_append] at h; rw [hl]; exact h) (((Below.refl _ w).alloc (Nat.le_refl _) _).grown hgrow (by simp) (by intro k hk; have hk' : w.heap.size = k := (by simpa [Value.ownBlock] using hk); omega)))
    clear hown hgrow
    go_wp2
    go_ret
    exact ⟨_, rfl, HO.out⟩


end Go.Proofs.YtchogijdkagiiaaGreatDoor
