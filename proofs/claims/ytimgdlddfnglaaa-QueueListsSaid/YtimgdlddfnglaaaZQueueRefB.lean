/- The reference's Right of layer 12. Written by gen/gen_queue.py. -/
import Derived.Test.YtimgdlddfnglaaaMg15
namespace Go.Proofs.Ytimgdlddfnglaaa
open Go.RowKit

set_option maxRecDepth 100000 in
set_option maxHeartbeats 8000000 in
theorem refRightQ_any (A : Option Addr) (n c : Nat) (l : Qu) (w : World) (hl : QAsk w A n c l) : Calls Try.prog 9 #[.slice A n c] w fun e w' => e = .returned (.bool (rightQ l)) ∧ Below w.heap.size w w' := by
  have QA := Lib.hid hl
  have HN := Lib.hid hl.reads.len
  have hm := hl.few
  unfold maxLen at hm
  clear hl
  by_cases h64 : 64 < n
  · have d1 : decide ((64 : Int) < (n : Int)) = true := by simp; omega
    have e1 : Hid (rightQ l = false) := Lib.hid (decide_eq_false fun h => by have := h.1; have := HN.out; omega)
    go_enter Try.func9, Try.ntmps9
    go_wp2
    go_ret
    exact ⟨ret_bl e1.out, Below.refl _ _⟩
  have d1 : decide ((64 : Int) < (n : Int)) = false := by simp; omega
  go_enter Try.func9, Try.ntmps9
  go_wp2
  go_loopw [3] (fun iv wr => ∃ k : Nat, k ≤ n ∧ iv = .int .i64 k ∧ (∀ i, i < k → JobAt l i) ∧ Below w.heap.size w wr) (fun iv _ => n - (intOf iv).toNat)
  case atStart => exact ⟨0, Nat.zero_le _, rfl, fun i hi => absurd hi (by omega), Below.refl _ _⟩
  case round =>
    obtain ⟨k, hk, rfl, hna, hb⟩ := hrel
    have HNA := Lib.hid hna
    have HB := Lib.hid hb
    have QAq := Lib.hid (QA.out.next hb)
    clear QA
    have QA := QAq
    clear QAq
    clear hna hb
    by_cases hlt : k < n
    · obtain ⟨b, off, A3, m3, c3, rfl, hb1, ⟨e0, e1, e2, e3, e4, e5, e6, e7, e8, e9, e10, e11, e12⟩, ja⟩ := QA.out.reads.one hlt
      have HKL : Hid (k < l.length) := Lib.hid (by rw [HN.out]; exact hlt)
      obtain ⟨x, hx⟩ : ∃ x, jAt l k = x := ⟨_, rfl⟩
      rw [hx] at ja e0 e1 e2 e3 e4 e5 e6 e7 e9 e10 e11 e12
      have HX := Lib.hid hx
      have JA := Lib.hid ja
      clear hx ja
      cases hv : rightJ x with
      | false =>
        have RV := Lib.hid hv
        have HV : Hid (rightQ l = false) := Lib.hid (decide_eq_false fun h => by have h1 := (h.2 k HKL.out).1; rw [HX.out] at h1; exact absurd (decide_eq_true h1) (by show ¬ rightJ x = true; rw [hv]; decide))
        clear hv
        go_wp2
        have zc0 : ∀ p : Later wr, p.now.cell? ⟨b, off + k * 13, none⟩ = some (.int .i64 x.id) := fun _ => Later.cell hb1 e0
        have zc1 : ∀ p : Later wr, p.now.cell? ⟨b, off + k * 13 + 1, none⟩ = some (.int .i64 x.spec.nodes) := fun _ => Later.cell hb1 e1
        have zc2 : ∀ p : Later wr, p.now.cell? ⟨b, off + k * 13 + 2, none⟩ = some (.int .i64 x.spec.cores) := fun _ => Later.cell hb1 e2
        have zc3 : ∀ p : Later wr, p.now.cell? ⟨b, off + k * 13 + 3, none⟩ = some (.int .i64 x.spec.gpus) := fun _ => Later.cell hb1 e3
        have zc4 : ∀ p : Later wr, p.now.cell? ⟨b, off + k * 13 + 4, none⟩ = some (.string x.spec.tag) := fun _ => Later.cell hb1 e4
        have zc5 : ∀ p : Later wr, p.now.cell? ⟨b, off + k * 13 + 5, none⟩ = some (.bool x.spec.whole) := fun _ => Later.cell hb1 e5
        have zc6 : ∀ p : Later wr, p.now.cell? ⟨b, off + k * 13 + 6, none⟩ = some (.int .i64 x.spec.long) := fun _ => Later.cell hb1 e6
        have zc7 : ∀ p : Later wr, p.now.cell? ⟨b, off + k * 13 + 7, none⟩ = some (.int .i64 x.spec.prio) := fun _ => Later.cell hb1 e7
        have zc8 : ∀ p : Later wr, p.now.cell? ⟨b, off + k * 13 + 8, none⟩ = some (.slice A3 m3 c3) := fun _ => Later.cell hb1 e8
        have zc9 : ∀ p : Later wr, p.now.cell? ⟨b, off + k * 13 + 9, none⟩ = some (.int .i64 x.state) := fun _ => Later.cell hb1 e9
        have zc10 : ∀ p : Later wr, p.now.cell? ⟨b, off + k * 13 + 10, none⟩ = some (.int .i64 x.came) := fun _ => Later.cell hb1 e10
        have zc11 : ∀ p : Later wr, p.now.cell? ⟨b, off + k * 13 + 11, none⟩ = some (.int .i64 x.frm) := fun _ => Later.cell hb1 e11
        have zc12 : ∀ p : Later wr, p.now.cell? ⟨b, off + k * 13 + 12, none⟩ = some (.int .i64 x.to) := fun _ => Later.cell hb1 e12
        refine wp_region_later (by kernel_rfl) (by kernel_rfl) ?_
        repeat (first | go_big_quiet_skip | (go_big_quiet_want; go_big_quiet_op; first | go_big_quiet_on | (apply Exists.intro; refine ⟨fun pz => ?_, ?_⟩; (first | (go_at_call 23; exact Calls.later_of (refRightJ_b (JA.out.next pz.bel) RV.out)) | fail); go_big_quiet_on)))
        refine wpQuiet_nil ?_
        intro _ hw'
        obtain ⟨pz, rfl⟩ := hw'
        obtain ⟨w1, hb⟩ := pz
        try dsimp only
        clear zc0 zc1 zc2 zc3 zc4 zc5 zc6 zc7 zc8 zc9 zc10 zc11 zc12
        have HBq := Lib.hid (HB.out.trans (hb.mono HB.out.size))
        clear HB
        have HB := HBq
        clear HBq
        have QAq := Lib.hid (QA.out.next hb)
        clear QA
        have QA := QAq
        clear QAq
        have JAq := Lib.hid (JA.out.next hb)
        clear JA
        have JA := JAq
        clear JAq
        clear hb
        clear e0 e1 e2 e3 e4 e5 e6 e7 e8 e9 e10 e11 e12
        go_wp2
        go_ret
        exact ⟨ret_bl HV.out, HB.out⟩
      | true =>
        have RV := Lib.hid hv
        clear hv
        by_cases k0 : 0 < k
        · have g0 : decide (0 < k) = true := decide_eq_true k0
          have g3 : ((k : Int) - 1) = ((k - 1 : Nat) : Int) := by omega
          have hiz : (0 : Int) ≤ (k : Int) - 1 := by omega
          have hin : (k : Int) - 1 < (n : Int) := by omega
          obtain ⟨b', off', A4, m4, c4, eA, _, ⟨f0, f1, f2, f3, f4, f5, f6, f7, f8, f9, f10, f11, f12⟩, _⟩ := QA.out.reads.one (k := k - 1) (by omega)
          injection eA with eA
          injection eA with eB eO _
          subst eB eO
          clear f1 f2 f3 f4 f5 f6 f7 f8 f9 f11 f12
          obtain ⟨pv, hp⟩ : ∃ p, (jAt l (k - 1)).id = p := ⟨_, rfl⟩
          obtain ⟨pc, hpc⟩ : ∃ p, (jAt l (k - 1)).came = p := ⟨_, rfl⟩
          rw [hp] at f0
          rw [hpc] at f10
          have HP := Lib.hid hp
          have HPC := Lib.hid hpc
          clear hp hpc
          by_cases x1 : x.id ≤ pv
          · have g4 : decide (x.id ≤ pv) = true := decide_eq_true x1
            have HV : Hid (rightQ l = false) := Lib.hid (decide_eq_false fun h => by have h1 := ((h.2 k HKL.out).2.1 k0).1; rw [HX.out, HP.out] at h1; omega)
            clear x1 k0
            go_wp2
            have zc0 : ∀ p : Later wr, p.now.cell? ⟨b, off + k * 13, none⟩ = some (.int .i64 x.id) := fun _ => Later.cell hb1 e0
            have zc1 : ∀ p : Later wr, p.now.cell? ⟨b, off + k * 13 + 1, none⟩ = some (.int .i64 x.spec.nodes) := fun _ => Later.cell hb1 e1
            have zc2 : ∀ p : Later wr, p.now.cell? ⟨b, off + k * 13 + 2, none⟩ = some (.int .i64 x.spec.cores) := fun _ => Later.cell hb1 e2
            have zc3 : ∀ p : Later wr, p.now.cell? ⟨b, off + k * 13 + 3, none⟩ = some (.int .i64 x.spec.gpus) := fun _ => Later.cell hb1 e3
            have zc4 : ∀ p : Later wr, p.now.cell? ⟨b, off + k * 13 + 4, none⟩ = some (.string x.spec.tag) := fun _ => Later.cell hb1 e4
            have zc5 : ∀ p : Later wr, p.now.cell? ⟨b, off + k * 13 + 5, none⟩ = some (.bool x.spec.whole) := fun _ => Later.cell hb1 e5
            have zc6 : ∀ p : Later wr, p.now.cell? ⟨b, off + k * 13 + 6, none⟩ = some (.int .i64 x.spec.long) := fun _ => Later.cell hb1 e6
            have zc7 : ∀ p : Later wr, p.now.cell? ⟨b, off + k * 13 + 7, none⟩ = some (.int .i64 x.spec.prio) := fun _ => Later.cell hb1 e7
            have zc8 : ∀ p : Later wr, p.now.cell? ⟨b, off + k * 13 + 8, none⟩ = some (.slice A3 m3 c3) := fun _ => Later.cell hb1 e8
            have zc9 : ∀ p : Later wr, p.now.cell? ⟨b, off + k * 13 + 9, none⟩ = some (.int .i64 x.state) := fun _ => Later.cell hb1 e9
            have zc10 : ∀ p : Later wr, p.now.cell? ⟨b, off + k * 13 + 10, none⟩ = some (.int .i64 x.came) := fun _ => Later.cell hb1 e10
            have zc11 : ∀ p : Later wr, p.now.cell? ⟨b, off + k * 13 + 11, none⟩ = some (.int .i64 x.frm) := fun _ => Later.cell hb1 e11
            have zc12 : ∀ p : Later wr, p.now.cell? ⟨b, off + k * 13 + 12, none⟩ = some (.int .i64 x.to) := fun _ => Later.cell hb1 e12
            have zc13 : ∀ p : Later wr, p.now.cell? ⟨b, off + (k - 1) * 13, none⟩ = some (.int .i64 pv) := fun _ => Later.cell hb1 f0
            have zc14 : ∀ p : Later wr, p.now.cell? ⟨b, off + (k - 1) * 13 + 10, none⟩ = some (.int .i64 pc) := fun _ => Later.cell hb1 f10
            refine wp_region_later (by kernel_rfl) (by kernel_rfl) ?_
            repeat (first | go_big_quiet_skip | (go_big_quiet_want; go_big_quiet_op; first | go_big_quiet_on | (apply Exists.intro; refine ⟨fun pz => ?_, ?_⟩; (first | (go_at_call 23; exact Calls.later_of (refRightJ_b (JA.out.next pz.bel) RV.out)) | fail); go_big_quiet_on)))
            refine wpQuiet_nil ?_
            intro _ hw'
            obtain ⟨pz, rfl⟩ := hw'
            obtain ⟨w1, hb⟩ := pz
            try dsimp only
            clear zc0 zc1 zc2 zc3 zc4 zc5 zc6 zc7 zc8 zc9 zc10 zc11 zc12 zc13 zc14
            have HBq := Lib.hid (HB.out.trans (hb.mono HB.out.size))
            clear HB
            have HB := HBq
            clear HBq
            have QAq := Lib.hid (QA.out.next hb)
            clear QA
            have QA := QAq
            clear QAq
            have JAq := Lib.hid (JA.out.next hb)
            clear JA
            have JA := JAq
            clear JAq
            clear hb
            clear e0 e1 e2 e3 e4 e5 e6 e7 e8 e9 e10 e11 e12 f0 f10
            go_wp2
            go_ret
            exact ⟨ret_bl HV.out, HB.out⟩
          have g4 : decide (x.id ≤ pv) = false := decide_eq_false x1
          by_cases x2 : x.came < pc
          · have g5 : decide (x.came < pc) = true := decide_eq_true x2
            have HV : Hid (rightQ l = false) := Lib.hid (decide_eq_false fun h => by have h1 := ((h.2 k HKL.out).2.1 k0).2; rw [HX.out, HPC.out] at h1; omega)
            clear x1 x2 k0
            go_wp2
            have zc0 : ∀ p : Later wr, p.now.cell? ⟨b, off + k * 13, none⟩ = some (.int .i64 x.id) := fun _ => Later.cell hb1 e0
            have zc1 : ∀ p : Later wr, p.now.cell? ⟨b, off + k * 13 + 1, none⟩ = some (.int .i64 x.spec.nodes) := fun _ => Later.cell hb1 e1
            have zc2 : ∀ p : Later wr, p.now.cell? ⟨b, off + k * 13 + 2, none⟩ = some (.int .i64 x.spec.cores) := fun _ => Later.cell hb1 e2
            have zc3 : ∀ p : Later wr, p.now.cell? ⟨b, off + k * 13 + 3, none⟩ = some (.int .i64 x.spec.gpus) := fun _ => Later.cell hb1 e3
            have zc4 : ∀ p : Later wr, p.now.cell? ⟨b, off + k * 13 + 4, none⟩ = some (.string x.spec.tag) := fun _ => Later.cell hb1 e4
            have zc5 : ∀ p : Later wr, p.now.cell? ⟨b, off + k * 13 + 5, none⟩ = some (.bool x.spec.whole) := fun _ => Later.cell hb1 e5
            have zc6 : ∀ p : Later wr, p.now.cell? ⟨b, off + k * 13 + 6, none⟩ = some (.int .i64 x.spec.long) := fun _ => Later.cell hb1 e6
            have zc7 : ∀ p : Later wr, p.now.cell? ⟨b, off + k * 13 + 7, none⟩ = some (.int .i64 x.spec.prio) := fun _ => Later.cell hb1 e7
            have zc8 : ∀ p : Later wr, p.now.cell? ⟨b, off + k * 13 + 8, none⟩ = some (.slice A3 m3 c3) := fun _ => Later.cell hb1 e8
            have zc9 : ∀ p : Later wr, p.now.cell? ⟨b, off + k * 13 + 9, none⟩ = some (.int .i64 x.state) := fun _ => Later.cell hb1 e9
            have zc10 : ∀ p : Later wr, p.now.cell? ⟨b, off + k * 13 + 10, none⟩ = some (.int .i64 x.came) := fun _ => Later.cell hb1 e10
            have zc11 : ∀ p : Later wr, p.now.cell? ⟨b, off + k * 13 + 11, none⟩ = some (.int .i64 x.frm) := fun _ => Later.cell hb1 e11
            have zc12 : ∀ p : Later wr, p.now.cell? ⟨b, off + k * 13 + 12, none⟩ = some (.int .i64 x.to) := fun _ => Later.cell hb1 e12
            have zc13 : ∀ p : Later wr, p.now.cell? ⟨b, off + (k - 1) * 13, none⟩ = some (.int .i64 pv) := fun _ => Later.cell hb1 f0
            have zc14 : ∀ p : Later wr, p.now.cell? ⟨b, off + (k - 1) * 13 + 10, none⟩ = some (.int .i64 pc) := fun _ => Later.cell hb1 f10
            refine wp_region_later (by kernel_rfl) (by kernel_rfl) ?_
            repeat (first | go_big_quiet_skip | (go_big_quiet_want; go_big_quiet_op; first | go_big_quiet_on | (apply Exists.intro; refine ⟨fun pz => ?_, ?_⟩; (first | (go_at_call 23; exact Calls.later_of (refRightJ_b (JA.out.next pz.bel) RV.out)) | fail); go_big_quiet_on)))
            refine wpQuiet_nil ?_
            intro _ hw'
            obtain ⟨pz, rfl⟩ := hw'
            obtain ⟨w1, hb⟩ := pz
            try dsimp only
            clear zc0 zc1 zc2 zc3 zc4 zc5 zc6 zc7 zc8 zc9 zc10 zc11 zc12 zc13 zc14
            have HBq := Lib.hid (HB.out.trans (hb.mono HB.out.size))
            clear HB
            have HB := HBq
            clear HBq
            have QAq := Lib.hid (QA.out.next hb)
            clear QA
            have QA := QAq
            clear QAq
            have JAq := Lib.hid (JA.out.next hb)
            clear JA
            have JA := JAq
            clear JAq
            clear hb
            clear e0 e1 e2 e3 e4 e5 e6 e7 e8 e9 e10 e11 e12 f0 f10
            go_wp2
            go_ret
            exact ⟨ret_bl HV.out, HB.out⟩
          have g5 : decide (x.came < pc) = false := decide_eq_false x2
          have HR : Hid (RiseAt l k) := Lib.hid (fun _ => by rw [HX.out, HP.out, HPC.out]; omega)
          clear x1 x2 k0
          go_wp2
          have zc0 : ∀ p : Later wr, p.now.cell? ⟨b, off + k * 13, none⟩ = some (.int .i64 x.id) := fun _ => Later.cell hb1 e0
          have zc1 : ∀ p : Later wr, p.now.cell? ⟨b, off + k * 13 + 1, none⟩ = some (.int .i64 x.spec.nodes) := fun _ => Later.cell hb1 e1
          have zc2 : ∀ p : Later wr, p.now.cell? ⟨b, off + k * 13 + 2, none⟩ = some (.int .i64 x.spec.cores) := fun _ => Later.cell hb1 e2
          have zc3 : ∀ p : Later wr, p.now.cell? ⟨b, off + k * 13 + 3, none⟩ = some (.int .i64 x.spec.gpus) := fun _ => Later.cell hb1 e3
          have zc4 : ∀ p : Later wr, p.now.cell? ⟨b, off + k * 13 + 4, none⟩ = some (.string x.spec.tag) := fun _ => Later.cell hb1 e4
          have zc5 : ∀ p : Later wr, p.now.cell? ⟨b, off + k * 13 + 5, none⟩ = some (.bool x.spec.whole) := fun _ => Later.cell hb1 e5
          have zc6 : ∀ p : Later wr, p.now.cell? ⟨b, off + k * 13 + 6, none⟩ = some (.int .i64 x.spec.long) := fun _ => Later.cell hb1 e6
          have zc7 : ∀ p : Later wr, p.now.cell? ⟨b, off + k * 13 + 7, none⟩ = some (.int .i64 x.spec.prio) := fun _ => Later.cell hb1 e7
          have zc8 : ∀ p : Later wr, p.now.cell? ⟨b, off + k * 13 + 8, none⟩ = some (.slice A3 m3 c3) := fun _ => Later.cell hb1 e8
          have zc9 : ∀ p : Later wr, p.now.cell? ⟨b, off + k * 13 + 9, none⟩ = some (.int .i64 x.state) := fun _ => Later.cell hb1 e9
          have zc10 : ∀ p : Later wr, p.now.cell? ⟨b, off + k * 13 + 10, none⟩ = some (.int .i64 x.came) := fun _ => Later.cell hb1 e10
          have zc11 : ∀ p : Later wr, p.now.cell? ⟨b, off + k * 13 + 11, none⟩ = some (.int .i64 x.frm) := fun _ => Later.cell hb1 e11
          have zc12 : ∀ p : Later wr, p.now.cell? ⟨b, off + k * 13 + 12, none⟩ = some (.int .i64 x.to) := fun _ => Later.cell hb1 e12
          have zc13 : ∀ p : Later wr, p.now.cell? ⟨b, off + (k - 1) * 13, none⟩ = some (.int .i64 pv) := fun _ => Later.cell hb1 f0
          have zc14 : ∀ p : Later wr, p.now.cell? ⟨b, off + (k - 1) * 13 + 10, none⟩ = some (.int .i64 pc) := fun _ => Later.cell hb1 f10
          refine wp_region_later (by kernel_rfl) (by kernel_rfl) ?_
          repeat (first | go_big_quiet_skip | (go_big_quiet_want; go_big_quiet_op; first | go_big_quiet_on | (apply Exists.intro; refine ⟨fun pz => ?_, ?_⟩; (first | (go_at_call 23; exact Calls.later_of (refRightJ_b (JA.out.next pz.bel) RV.out)) | fail); go_big_quiet_on)))
          refine wpQuiet_nil ?_
          intro _ hw'
          obtain ⟨pz, rfl⟩ := hw'
          obtain ⟨w1, hb⟩ := pz
          try dsimp only
          clear zc0 zc1 zc2 zc3 zc4 zc5 zc6 zc7 zc8 zc9 zc10 zc11 zc12 zc13 zc14
          have HBq := Lib.hid (HB.out.trans (hb.mono HB.out.size))
          clear HB
          have HB := HBq
          clear HBq
          have QAq := Lib.hid (QA.out.next hb)
          clear QA
          have QA := QAq
          clear QAq
          have JAq := Lib.hid (JA.out.next hb)
          clear JA
          have JA := JAq
          clear JAq
          clear hb
          clear e0 e1 e2 e3 e4 e5 e6 e7 e8 e9 e10 e11 e12 f0 f10
          obtain ⟨b, off, A3, m3, c3, eA, hb1, ⟨e0, e1, e2, e3, e4, e5, e6, e7, e8, e9, e10, e11, e12⟩, ja⟩ := QA.out.reads.one hlt
          injection eA with eA
          injection eA with eB eO _
          subst eB eO
          clear e0 e1 e2 e3 e4 e5 e6 e7 e9 e10 e11 e12
          rw [HX.out] at ja
          clear JA
          have JA := Lib.hid ja
          clear ja
          have hm3 := JA.out.few
          unfold maxLen at hm3
          go_wp2
          go_loop [4] (fun kv => ∃ q : Nat, q ≤ m3 ∧ kv = .int .i64 q ∧ ∀ i, i < q → HasQ l (x.needs.getD i 0)) (fun kv => m3 - (intOf kv).toNat)
          case atStart => exact ⟨0, Nat.zero_le _, rfl, fun i hi => absurd hi (by omega)⟩
          case round =>
            obtain ⟨q, hq, rfl, hqa⟩ := hrel
            have HQA := Lib.hid hqa
            clear hqa
            by_cases hlq : q < m3
            · obtain ⟨b2, off2, rfl, hb2, hc2⟩ := JA.out.reads.one hlq
              obtain ⟨y, hy⟩ : ∃ y, x.needs.getD q 0 = y := ⟨_, rfl⟩
              rw [hy] at hc2
              have HY := Lib.hid hy
              clear hy
              by_cases hh : HasQ l y
              · obtain ⟨z, hz⟩ : ∃ z, atN l y = z := ⟨_, rfl⟩
                have HZ := Lib.hid (refAtQ_has (w := w1) QA.out hh hz)
                have HQN : Hid (∀ i, i < q + 1 → HasQ l (x.needs.getD i 0)) := Lib.hid (fun i hi => by
                  by_cases e : i = q
                  · subst e; rw [HY.out]; exact hh
                  · exact HQA.out i (by omega))
                have dz : decide ((z : Int) < 0) = false := decide_eq_false (by omega)
                have HZ2 : Hid (Calls Try.prog 24 #[.slice (some ⟨b, off, none⟩) n c, .int .i64 y] w1 fun e w' => e = .returned (.int .i64 (z : Int)) ∧ w1 = w') := Lib.hid ((refAtQ_any _ n c l y _ QA.out).mono fun e w' ⟨h1, h2⟩ => ⟨by rw [h1, atZ_has hh, hz], h2⟩)
                clear hh hz HZ
                go_wp2_with fail
                refine HZ2.out.mono ?_
                rintro e wz ⟨rfl, rfl⟩
                clear HZ2
                go_wp2
                go_round
                case rel => exact ⟨q + 1, by omega, by go_num, HQN.out⟩
                case measure => simp [intOf]; omega
              · have HZ2 : Hid (Calls Try.prog 24 #[.slice (some ⟨b, off, none⟩) n c, .int .i64 y] w1 fun e w' => e = .returned (.int .i64 (-1)) ∧ w1 = w') := Lib.hid ((refAtQ_any _ n c l y _ QA.out).mono fun e w' ⟨h1, h2⟩ => ⟨by rw [h1, atZ_hasNo hh], h2⟩)
                have HV : Hid (rightQ l = false) := Lib.hid (decide_eq_false fun h => hh (by
                  have h1 := (h.2 k HKL.out).2.2 q (by rw [HX.out, JA.out.reads.1]; exact hlq)
                  rw [HX.out, HY.out] at h1; exact h1))
                clear hh
                go_wp2_with fail
                refine HZ2.out.mono ?_
                rintro e wz ⟨rfl, rfl⟩
                clear HZ2
                go_wp2
                go_ret
                exact ⟨ret_bl HV.out, HB.out⟩
            · have HNE : Hid (NeedsAt l k) := Lib.hid (fun i hi => by rw [HX.out] at hi ⊢; exact HQA.out i (by rw [JA.out.reads.1] at hi; omega))
              have HJN : Hid (∀ i, i < k + 1 → JobAt l i) := Lib.hid (fun i hi => by
                by_cases e : i = k
                · subst e; exact ⟨by rw [HX.out]; exact of_decide_eq_true RV.out, HR.out, HNE.out⟩
                · exact HNA.out i (by omega))
              clear HQA
              go_wp2
              go_roundw
              case rel => exact ⟨k + 1, by omega, by go_num, HJN.out, HB.out⟩
              case measure => simp [intOf]; omega
        · have g0 : decide (0 < k) = false := decide_eq_false k0
          have HR : Hid (RiseAt l k) := Lib.hid (fun h => absurd h k0)
          clear k0
          go_wp2
          have zc0 : ∀ p : Later wr, p.now.cell? ⟨b, off + k * 13, none⟩ = some (.int .i64 x.id) := fun _ => Later.cell hb1 e0
          have zc1 : ∀ p : Later wr, p.now.cell? ⟨b, off + k * 13 + 1, none⟩ = some (.int .i64 x.spec.nodes) := fun _ => Later.cell hb1 e1
          have zc2 : ∀ p : Later wr, p.now.cell? ⟨b, off + k * 13 + 2, none⟩ = some (.int .i64 x.spec.cores) := fun _ => Later.cell hb1 e2
          have zc3 : ∀ p : Later wr, p.now.cell? ⟨b, off + k * 13 + 3, none⟩ = some (.int .i64 x.spec.gpus) := fun _ => Later.cell hb1 e3
          have zc4 : ∀ p : Later wr, p.now.cell? ⟨b, off + k * 13 + 4, none⟩ = some (.string x.spec.tag) := fun _ => Later.cell hb1 e4
          have zc5 : ∀ p : Later wr, p.now.cell? ⟨b, off + k * 13 + 5, none⟩ = some (.bool x.spec.whole) := fun _ => Later.cell hb1 e5
          have zc6 : ∀ p : Later wr, p.now.cell? ⟨b, off + k * 13 + 6, none⟩ = some (.int .i64 x.spec.long) := fun _ => Later.cell hb1 e6
          have zc7 : ∀ p : Later wr, p.now.cell? ⟨b, off + k * 13 + 7, none⟩ = some (.int .i64 x.spec.prio) := fun _ => Later.cell hb1 e7
          have zc8 : ∀ p : Later wr, p.now.cell? ⟨b, off + k * 13 + 8, none⟩ = some (.slice A3 m3 c3) := fun _ => Later.cell hb1 e8
          have zc9 : ∀ p : Later wr, p.now.cell? ⟨b, off + k * 13 + 9, none⟩ = some (.int .i64 x.state) := fun _ => Later.cell hb1 e9
          have zc10 : ∀ p : Later wr, p.now.cell? ⟨b, off + k * 13 + 10, none⟩ = some (.int .i64 x.came) := fun _ => Later.cell hb1 e10
          have zc11 : ∀ p : Later wr, p.now.cell? ⟨b, off + k * 13 + 11, none⟩ = some (.int .i64 x.frm) := fun _ => Later.cell hb1 e11
          have zc12 : ∀ p : Later wr, p.now.cell? ⟨b, off + k * 13 + 12, none⟩ = some (.int .i64 x.to) := fun _ => Later.cell hb1 e12
          refine wp_region_later (by kernel_rfl) (by kernel_rfl) ?_
          repeat (first | go_big_quiet_skip | (go_big_quiet_want; go_big_quiet_op; first | go_big_quiet_on | (apply Exists.intro; refine ⟨fun pz => ?_, ?_⟩; (first | (go_at_call 23; exact Calls.later_of (refRightJ_b (JA.out.next pz.bel) RV.out)) | fail); go_big_quiet_on)))
          refine wpQuiet_nil ?_
          intro _ hw'
          obtain ⟨pz, rfl⟩ := hw'
          obtain ⟨w1, hb⟩ := pz
          try dsimp only
          clear zc0 zc1 zc2 zc3 zc4 zc5 zc6 zc7 zc8 zc9 zc10 zc11 zc12
          have HBq := Lib.hid (HB.out.trans (hb.mono HB.out.size))
          clear HB
          have HB := HBq
          clear HBq
          have QAq := Lib.hid (QA.out.next hb)
          clear QA
          have QA := QAq
          clear QAq
          have JAq := Lib.hid (JA.out.next hb)
          clear JA
          have JA := JAq
          clear JAq
          clear hb
          clear e0 e1 e2 e3 e4 e5 e6 e7 e8 e9 e10 e11 e12
          obtain ⟨b, off, A3, m3, c3, eA, hb1, ⟨e0, e1, e2, e3, e4, e5, e6, e7, e8, e9, e10, e11, e12⟩, ja⟩ := QA.out.reads.one hlt
          injection eA with eA
          injection eA with eB eO _
          subst eB eO
          clear e0 e1 e2 e3 e4 e5 e6 e7 e9 e10 e11 e12
          rw [HX.out] at ja
          clear JA
          have JA := Lib.hid ja
          clear ja
          have hm3 := JA.out.few
          unfold maxLen at hm3
          go_wp2
          go_loop [4] (fun kv => ∃ q : Nat, q ≤ m3 ∧ kv = .int .i64 q ∧ ∀ i, i < q → HasQ l (x.needs.getD i 0)) (fun kv => m3 - (intOf kv).toNat)
          case atStart => exact ⟨0, Nat.zero_le _, rfl, fun i hi => absurd hi (by omega)⟩
          case round =>
            obtain ⟨q, hq, rfl, hqa⟩ := hrel
            have HQA := Lib.hid hqa
            clear hqa
            by_cases hlq : q < m3
            · obtain ⟨b2, off2, rfl, hb2, hc2⟩ := JA.out.reads.one hlq
              obtain ⟨y, hy⟩ : ∃ y, x.needs.getD q 0 = y := ⟨_, rfl⟩
              rw [hy] at hc2
              have HY := Lib.hid hy
              clear hy
              by_cases hh : HasQ l y
              · obtain ⟨z, hz⟩ : ∃ z, atN l y = z := ⟨_, rfl⟩
                have HZ := Lib.hid (refAtQ_has (w := w1) QA.out hh hz)
                have HQN : Hid (∀ i, i < q + 1 → HasQ l (x.needs.getD i 0)) := Lib.hid (fun i hi => by
                  by_cases e : i = q
                  · subst e; rw [HY.out]; exact hh
                  · exact HQA.out i (by omega))
                have dz : decide ((z : Int) < 0) = false := decide_eq_false (by omega)
                have HZ2 : Hid (Calls Try.prog 24 #[.slice (some ⟨b, off, none⟩) n c, .int .i64 y] w1 fun e w' => e = .returned (.int .i64 (z : Int)) ∧ w1 = w') := Lib.hid ((refAtQ_any _ n c l y _ QA.out).mono fun e w' ⟨h1, h2⟩ => ⟨by rw [h1, atZ_has hh, hz], h2⟩)
                clear hh hz HZ
                go_wp2_with fail
                refine HZ2.out.mono ?_
                rintro e wz ⟨rfl, rfl⟩
                clear HZ2
                go_wp2
                go_round
                case rel => exact ⟨q + 1, by omega, by go_num, HQN.out⟩
                case measure => simp [intOf]; omega
              · have HZ2 : Hid (Calls Try.prog 24 #[.slice (some ⟨b, off, none⟩) n c, .int .i64 y] w1 fun e w' => e = .returned (.int .i64 (-1)) ∧ w1 = w') := Lib.hid ((refAtQ_any _ n c l y _ QA.out).mono fun e w' ⟨h1, h2⟩ => ⟨by rw [h1, atZ_hasNo hh], h2⟩)
                have HV : Hid (rightQ l = false) := Lib.hid (decide_eq_false fun h => hh (by
                  have h1 := (h.2 k HKL.out).2.2 q (by rw [HX.out, JA.out.reads.1]; exact hlq)
                  rw [HX.out, HY.out] at h1; exact h1))
                clear hh
                go_wp2_with fail
                refine HZ2.out.mono ?_
                rintro e wz ⟨rfl, rfl⟩
                clear HZ2
                go_wp2
                go_ret
                exact ⟨ret_bl HV.out, HB.out⟩
            · have HNE : Hid (NeedsAt l k) := Lib.hid (fun i hi => by rw [HX.out] at hi ⊢; exact HQA.out i (by rw [JA.out.reads.1] at hi; omega))
              have HJN : Hid (∀ i, i < k + 1 → JobAt l i) := Lib.hid (fun i hi => by
                by_cases e : i = k
                · subst e; exact ⟨by rw [HX.out]; exact of_decide_eq_true RV.out, HR.out, HNE.out⟩
                · exact HNA.out i (by omega))
              clear HQA
              go_wp2
              go_roundw
              case rel => exact ⟨k + 1, by omega, by go_num, HJN.out, HB.out⟩
              case measure => simp [intOf]; omega
    · have HV : Hid (rightQ l = true) := Lib.hid (decide_eq_true ⟨by rw [HN.out]; omega, fun i hi => HNA.out i (by rw [HN.out] at hi; omega)⟩)
      clear HNA
      go_wp2
      go_ret
      exact ⟨ret_bl HV.out, HB.out⟩
theorem refRightQ_b {A : Option Addr} {n c : Nat} {l : Qu} {w : World} {v : Bool} (hl : QAsk w A n c l) (e : rightQ l = v) :
    Calls Try.prog 9 #[.slice A n c] w fun e w' => e = .returned (.bool v) ∧ Below w.heap.size w w' := by
  subst e; exact refRightQ_any A n c l w hl

end Go.Proofs.Ytimgdlddfnglaaa
