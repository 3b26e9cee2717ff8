/- The program's Right of layer 12. Written by gen/gen_queuep.py. -/
import Derived.Test.YtimgdlddfnglaaaMg18
import Derived.Test.YtimgdlddfnglaaaMg22
namespace Go.Proofs.Ytimgdlddfnglaaa
open Go.RowKit

set_option maxRecDepth 100000 in
set_option maxHeartbeats 16000000 in
theorem rightQP_any (A : Option Addr) (n c : Nat) (l : Qu) (w : World) (hl : QAsk w A n c l) :
    Calls Try.prog 16 #[.slice A n c] w fun e w' => e = .returned (.bool (rightQ l)) ∧ Below w.heap.size w w' := by
  have QA := Lib.hid hl
  have HN0 := Lib.hid hl.reads.len
  have hm := hl.few
  unfold maxLen at hm
  clear hl
  by_cases h64 : 64 < n
  · have d1 : decide ((64 : Int) < (n : Int)) = true := by simp; omega
    have e1 : Hid (rightQ l = false) := Lib.hid (decide_eq_false fun h => by have := h.1; have := HN0.out; omega)
    go_enter Try.func16, Try.ntmps16
    go_wp2
    go_ret
    exact ⟨ret_bl e1.out, Below.refl _ _⟩
  · have d1 : decide ((64 : Int) < (n : Int)) = false := by simp; omega
    go_enter Try.func16, Try.ntmps16
    go_wp2
    go_loopw [10] (fun iv wr => ∃ k : Nat, k ≤ n ∧ iv = .int .i64 k ∧ (∀ i, i < k → StepQA l i) ∧ Below w.heap.size w wr) (fun iv _ => n - (intOf iv).toNat)
    case atStart => exact ⟨0, Nat.zero_le _, rfl, fun i hi => absurd hi (by omega), Below.refl _ _⟩
    case round =>
      obtain ⟨k, hk, rfl, hna, hbel⟩ := hrel
      have HNA := Lib.hid hna
      have HB := Lib.hid hbel
      have QAw := Lib.hid (QA.out.next hbel)
      by_cases hlt : k < n
      · have HKL : Hid (k < l.length) := Lib.hid (by rw [HN0.out]; exact hlt)
        have HKN : Hid (k ≤ n) := Lib.hid hk
        have HK1 : Hid (k ≤ 1000) := Lib.hid (by omega)
        have HRT : Hid (RiseL (l.take k)) := Lib.hid (rise_upto (Nat.le_of_lt HKL.out) fun q hq => (hna q hq).2.1)
        clear hna hbel
        obtain ⟨b, off, A3, m3, c3, rfl, hb1, ⟨e0, e1, e2, e3, e4, e5, e6, e7, e8, e9, e10, e11, e12⟩, ja⟩ := QAw.out.reads.one hlt
        obtain ⟨x, hx⟩ : ∃ x, jAt l k = x := ⟨_, rfl⟩
        rw [hx] at ja e0 e1 e2 e3 e4 e5 e6 e7 e9 e10 e11 e12
        have JA := Lib.hid ja
        have HX := Lib.hid hx
        clear hx ja
        cases hv : rightJ x with
        | false =>
          have RV := Lib.hid hv
          have HV : Hid (rightQ l = false) := Lib.hid (decide_eq_false fun h => of_decide_eq_false RV.out (by have := ((rightQ_steps.1 h).2 k HKL.out).1; rw [HX.out] at this; exact this))
          clear hv
          go_wp2_with fail
          have hb := Below.alloc (Below.refl wr.heap.size wr) (Nat.le_refl _) (.cells #[.int .i64 x.id, .int .i64 x.spec.nodes, .int .i64 x.spec.cores, .int .i64 x.spec.gpus, .string x.spec.tag, .bool x.spec.whole, .int .i64 x.spec.long, .int .i64 x.spec.prio, .slice A3 m3 c3, .int .i64 x.state, .int .i64 x.came, .int .i64 x.frm, .int .i64 x.to] 30)
          have BXq := Lib.hid (boxJ_new wr x A3 m3 c3)
          have HBq := Lib.hid (HB.out.trans (hb.mono HB.out.size))
          clear HB
          have HB := HBq
          clear HBq
          have QAwq := Lib.hid (QAw.out.next hb)
          clear QAw
          have QAw := QAwq
          clear QAwq
          have JAq := Lib.hid (JA.out.next hb)
          clear JA
          have JA := JAq
          clear JAq
          clear hb
          have BX := BXq
          clear BXq
          have q0' := BX.out.lt
          clear q0'
          go_wp2
          have zc0 : ∀ p : Later (wr.alloc (.cells #[.int .i64 x.id, .int .i64 x.spec.nodes, .int .i64 x.spec.cores, .int .i64 x.spec.gpus, .string x.spec.tag, .bool x.spec.whole, .int .i64 x.spec.long, .int .i64 x.spec.prio, .slice A3 m3 c3, .int .i64 x.state, .int .i64 x.came, .int .i64 x.frm, .int .i64 x.to] 30)), p.now.cell? ⟨wr.heap.size, 0, none⟩ = some (.int .i64 x.id) := fun _ => Later.cell BX.out.lt BX.out.c0
          have zc1 : ∀ p : Later (wr.alloc (.cells #[.int .i64 x.id, .int .i64 x.spec.nodes, .int .i64 x.spec.cores, .int .i64 x.spec.gpus, .string x.spec.tag, .bool x.spec.whole, .int .i64 x.spec.long, .int .i64 x.spec.prio, .slice A3 m3 c3, .int .i64 x.state, .int .i64 x.came, .int .i64 x.frm, .int .i64 x.to] 30)), p.now.cell? ⟨wr.heap.size, 1, none⟩ = some (.int .i64 x.spec.nodes) := fun _ => Later.cell BX.out.lt BX.out.c1
          have zc2 : ∀ p : Later (wr.alloc (.cells #[.int .i64 x.id, .int .i64 x.spec.nodes, .int .i64 x.spec.cores, .int .i64 x.spec.gpus, .string x.spec.tag, .bool x.spec.whole, .int .i64 x.spec.long, .int .i64 x.spec.prio, .slice A3 m3 c3, .int .i64 x.state, .int .i64 x.came, .int .i64 x.frm, .int .i64 x.to] 30)), p.now.cell? ⟨wr.heap.size, 2, none⟩ = some (.int .i64 x.spec.cores) := fun _ => Later.cell BX.out.lt BX.out.c2
          have zc3 : ∀ p : Later (wr.alloc (.cells #[.int .i64 x.id, .int .i64 x.spec.nodes, .int .i64 x.spec.cores, .int .i64 x.spec.gpus, .string x.spec.tag, .bool x.spec.whole, .int .i64 x.spec.long, .int .i64 x.spec.prio, .slice A3 m3 c3, .int .i64 x.state, .int .i64 x.came, .int .i64 x.frm, .int .i64 x.to] 30)), p.now.cell? ⟨wr.heap.size, 3, none⟩ = some (.int .i64 x.spec.gpus) := fun _ => Later.cell BX.out.lt BX.out.c3
          have zc4 : ∀ p : Later (wr.alloc (.cells #[.int .i64 x.id, .int .i64 x.spec.nodes, .int .i64 x.spec.cores, .int .i64 x.spec.gpus, .string x.spec.tag, .bool x.spec.whole, .int .i64 x.spec.long, .int .i64 x.spec.prio, .slice A3 m3 c3, .int .i64 x.state, .int .i64 x.came, .int .i64 x.frm, .int .i64 x.to] 30)), p.now.cell? ⟨wr.heap.size, 4, none⟩ = some (.string x.spec.tag) := fun _ => Later.cell BX.out.lt BX.out.c4
          have zc5 : ∀ p : Later (wr.alloc (.cells #[.int .i64 x.id, .int .i64 x.spec.nodes, .int .i64 x.spec.cores, .int .i64 x.spec.gpus, .string x.spec.tag, .bool x.spec.whole, .int .i64 x.spec.long, .int .i64 x.spec.prio, .slice A3 m3 c3, .int .i64 x.state, .int .i64 x.came, .int .i64 x.frm, .int .i64 x.to] 30)), p.now.cell? ⟨wr.heap.size, 5, none⟩ = some (.bool x.spec.whole) := fun _ => Later.cell BX.out.lt BX.out.c5
          have zc6 : ∀ p : Later (wr.alloc (.cells #[.int .i64 x.id, .int .i64 x.spec.nodes, .int .i64 x.spec.cores, .int .i64 x.spec.gpus, .string x.spec.tag, .bool x.spec.whole, .int .i64 x.spec.long, .int .i64 x.spec.prio, .slice A3 m3 c3, .int .i64 x.state, .int .i64 x.came, .int .i64 x.frm, .int .i64 x.to] 30)), p.now.cell? ⟨wr.heap.size, 6, none⟩ = some (.int .i64 x.spec.long) := fun _ => Later.cell BX.out.lt BX.out.c6
          have zc7 : ∀ p : Later (wr.alloc (.cells #[.int .i64 x.id, .int .i64 x.spec.nodes, .int .i64 x.spec.cores, .int .i64 x.spec.gpus, .string x.spec.tag, .bool x.spec.whole, .int .i64 x.spec.long, .int .i64 x.spec.prio, .slice A3 m3 c3, .int .i64 x.state, .int .i64 x.came, .int .i64 x.frm, .int .i64 x.to] 30)), p.now.cell? ⟨wr.heap.size, 7, none⟩ = some (.int .i64 x.spec.prio) := fun _ => Later.cell BX.out.lt BX.out.c7
          have zc8 : ∀ p : Later (wr.alloc (.cells #[.int .i64 x.id, .int .i64 x.spec.nodes, .int .i64 x.spec.cores, .int .i64 x.spec.gpus, .string x.spec.tag, .bool x.spec.whole, .int .i64 x.spec.long, .int .i64 x.spec.prio, .slice A3 m3 c3, .int .i64 x.state, .int .i64 x.came, .int .i64 x.frm, .int .i64 x.to] 30)), p.now.cell? ⟨wr.heap.size, 8, none⟩ = some (.slice A3 m3 c3) := fun _ => Later.cell BX.out.lt BX.out.c8
          have zc9 : ∀ p : Later (wr.alloc (.cells #[.int .i64 x.id, .int .i64 x.spec.nodes, .int .i64 x.spec.cores, .int .i64 x.spec.gpus, .string x.spec.tag, .bool x.spec.whole, .int .i64 x.spec.long, .int .i64 x.spec.prio, .slice A3 m3 c3, .int .i64 x.state, .int .i64 x.came, .int .i64 x.frm, .int .i64 x.to] 30)), p.now.cell? ⟨wr.heap.size, 9, none⟩ = some (.int .i64 x.state) := fun _ => Later.cell BX.out.lt BX.out.c9
          have zc10 : ∀ p : Later (wr.alloc (.cells #[.int .i64 x.id, .int .i64 x.spec.nodes, .int .i64 x.spec.cores, .int .i64 x.spec.gpus, .string x.spec.tag, .bool x.spec.whole, .int .i64 x.spec.long, .int .i64 x.spec.prio, .slice A3 m3 c3, .int .i64 x.state, .int .i64 x.came, .int .i64 x.frm, .int .i64 x.to] 30)), p.now.cell? ⟨wr.heap.size, 10, none⟩ = some (.int .i64 x.came) := fun _ => Later.cell BX.out.lt BX.out.c10
          have zc11 : ∀ p : Later (wr.alloc (.cells #[.int .i64 x.id, .int .i64 x.spec.nodes, .int .i64 x.spec.cores, .int .i64 x.spec.gpus, .string x.spec.tag, .bool x.spec.whole, .int .i64 x.spec.long, .int .i64 x.spec.prio, .slice A3 m3 c3, .int .i64 x.state, .int .i64 x.came, .int .i64 x.frm, .int .i64 x.to] 30)), p.now.cell? ⟨wr.heap.size, 11, none⟩ = some (.int .i64 x.frm) := fun _ => Later.cell BX.out.lt BX.out.c11
          have zc12 : ∀ p : Later (wr.alloc (.cells #[.int .i64 x.id, .int .i64 x.spec.nodes, .int .i64 x.spec.cores, .int .i64 x.spec.gpus, .string x.spec.tag, .bool x.spec.whole, .int .i64 x.spec.long, .int .i64 x.spec.prio, .slice A3 m3 c3, .int .i64 x.state, .int .i64 x.came, .int .i64 x.frm, .int .i64 x.to] 30)), p.now.cell? ⟨wr.heap.size, 12, none⟩ = some (.int .i64 x.to) := fun _ => Later.cell BX.out.lt BX.out.c12
          refine wp_region_later (by kernel_rfl) (by kernel_rfl) ?_
          repeat (first | go_big_quiet_skip | (go_big_quiet_want; go_big_quiet_op; first | go_big_quiet_on | (apply Exists.intro; refine ⟨fun pz => ?_, ?_⟩; (first | (go_at_call 32; exact Calls.later_of (jobRight_b (JA.out.next pz.bel) RV.out)) | fail); go_big_quiet_on)))
          refine wpQuiet_nil ?_
          intro _ hw'
          obtain ⟨pz, rfl⟩ := hw'
          obtain ⟨w1, hb⟩ := pz
          try dsimp only
          clear zc0 zc1 zc2 zc3 zc4 zc5 zc6 zc7 zc8 zc9 zc10 zc11 zc12
          have HBq := Lib.hid (HB.out.trans (hb.mono HB.out.size))
          clear HB
          have HB := HBq
          clear HBq
          have QAwq := Lib.hid (QAw.out.next hb)
          clear QAw
          have QAw := QAwq
          clear QAwq
          have JAq := Lib.hid (JA.out.next hb)
          clear JA
          have JA := JAq
          clear JAq
          have BXq := Lib.hid (BX.out.next hb)
          clear BX
          have BX := BXq
          clear BXq
          clear hb
          go_wp2
          go_ret
          exact ⟨ret_bl HV.out, HB.out⟩
        | true =>
          have RV := Lib.hid hv
          by_cases hk0 : k = 0
          · subst hk0
            have HRI : Hid (RiseAt l 0) := Lib.hid (fun h => absurd h (by omega))
            simp only [Nat.zero_mul, Nat.add_zero] at e0 e1 e2 e3 e4 e5 e6 e7 e8 e9 e10 e11 e12
            cases ht : decide (AllHas (l.take 0) x.needs) with
            | false =>
              have TV := Lib.hid ht
              have HV : Hid (rightQ l = false) := Lib.hid (decide_eq_false fun h => of_decide_eq_false TV.out (by have := ((rightQ_steps.1 h).2 0 HKL.out).2.2; rw [HX.out] at this; exact this))
              clear ht hv
              go_wp2_with fail
              have hb := Below.alloc (Below.refl wr.heap.size wr) (Nat.le_refl _) (.cells #[.int .i64 x.id, .int .i64 x.spec.nodes, .int .i64 x.spec.cores, .int .i64 x.spec.gpus, .string x.spec.tag, .bool x.spec.whole, .int .i64 x.spec.long, .int .i64 x.spec.prio, .slice A3 m3 c3, .int .i64 x.state, .int .i64 x.came, .int .i64 x.frm, .int .i64 x.to] 30)
              have BXq := Lib.hid (boxJ_new wr x A3 m3 c3)
              have HBq := Lib.hid (HB.out.trans (hb.mono HB.out.size))
              clear HB
              have HB := HBq
              clear HBq
              have QAwq := Lib.hid (QAw.out.next hb)
              clear QAw
              have QAw := QAwq
              clear QAwq
              have JAq := Lib.hid (JA.out.next hb)
              clear JA
              have JA := JAq
              clear JAq
              clear hb
              have BX := BXq
              clear BXq
              have q0' := BX.out.lt
              clear q0'
              go_wp2
              have zc0 : ∀ p : Later (wr.alloc (.cells #[.int .i64 x.id, .int .i64 x.spec.nodes, .int .i64 x.spec.cores, .int .i64 x.spec.gpus, .string x.spec.tag, .bool x.spec.whole, .int .i64 x.spec.long, .int .i64 x.spec.prio, .slice A3 m3 c3, .int .i64 x.state, .int .i64 x.came, .int .i64 x.frm, .int .i64 x.to] 30)), p.now.cell? ⟨wr.heap.size, 0, none⟩ = some (.int .i64 x.id) := fun _ => Later.cell BX.out.lt BX.out.c0
              have zc1 : ∀ p : Later (wr.alloc (.cells #[.int .i64 x.id, .int .i64 x.spec.nodes, .int .i64 x.spec.cores, .int .i64 x.spec.gpus, .string x.spec.tag, .bool x.spec.whole, .int .i64 x.spec.long, .int .i64 x.spec.prio, .slice A3 m3 c3, .int .i64 x.state, .int .i64 x.came, .int .i64 x.frm, .int .i64 x.to] 30)), p.now.cell? ⟨wr.heap.size, 1, none⟩ = some (.int .i64 x.spec.nodes) := fun _ => Later.cell BX.out.lt BX.out.c1
              have zc2 : ∀ p : Later (wr.alloc (.cells #[.int .i64 x.id, .int .i64 x.spec.nodes, .int .i64 x.spec.cores, .int .i64 x.spec.gpus, .string x.spec.tag, .bool x.spec.whole, .int .i64 x.spec.long, .int .i64 x.spec.prio, .slice A3 m3 c3, .int .i64 x.state, .int .i64 x.came, .int .i64 x.frm, .int .i64 x.to] 30)), p.now.cell? ⟨wr.heap.size, 2, none⟩ = some (.int .i64 x.spec.cores) := fun _ => Later.cell BX.out.lt BX.out.c2
              have zc3 : ∀ p : Later (wr.alloc (.cells #[.int .i64 x.id, .int .i64 x.spec.nodes, .int .i64 x.spec.cores, .int .i64 x.spec.gpus, .string x.spec.tag, .bool x.spec.whole, .int .i64 x.spec.long, .int .i64 x.spec.prio, .slice A3 m3 c3, .int .i64 x.state, .int .i64 x.came, .int .i64 x.frm, .int .i64 x.to] 30)), p.now.cell? ⟨wr.heap.size, 3, none⟩ = some (.int .i64 x.spec.gpus) := fun _ => Later.cell BX.out.lt BX.out.c3
              have zc4 : ∀ p : Later (wr.alloc (.cells #[.int .i64 x.id, .int .i64 x.spec.nodes, .int .i64 x.spec.cores, .int .i64 x.spec.gpus, .string x.spec.tag, .bool x.spec.whole, .int .i64 x.spec.long, .int .i64 x.spec.prio, .slice A3 m3 c3, .int .i64 x.state, .int .i64 x.came, .int .i64 x.frm, .int .i64 x.to] 30)), p.now.cell? ⟨wr.heap.size, 4, none⟩ = some (.string x.spec.tag) := fun _ => Later.cell BX.out.lt BX.out.c4
              have zc5 : ∀ p : Later (wr.alloc (.cells #[.int .i64 x.id, .int .i64 x.spec.nodes, .int .i64 x.spec.cores, .int .i64 x.spec.gpus, .string x.spec.tag, .bool x.spec.whole, .int .i64 x.spec.long, .int .i64 x.spec.prio, .slice A3 m3 c3, .int .i64 x.state, .int .i64 x.came, .int .i64 x.frm, .int .i64 x.to] 30)), p.now.cell? ⟨wr.heap.size, 5, none⟩ = some (.bool x.spec.whole) := fun _ => Later.cell BX.out.lt BX.out.c5
              have zc6 : ∀ p : Later (wr.alloc (.cells #[.int .i64 x.id, .int .i64 x.spec.nodes, .int .i64 x.spec.cores, .int .i64 x.spec.gpus, .string x.spec.tag, .bool x.spec.whole, .int .i64 x.spec.long, .int .i64 x.spec.prio, .slice A3 m3 c3, .int .i64 x.state, .int .i64 x.came, .int .i64 x.frm, .int .i64 x.to] 30)), p.now.cell? ⟨wr.heap.size, 6, none⟩ = some (.int .i64 x.spec.long) := fun _ => Later.cell BX.out.lt BX.out.c6
              have zc7 : ∀ p : Later (wr.alloc (.cells #[.int .i64 x.id, .int .i64 x.spec.nodes, .int .i64 x.spec.cores, .int .i64 x.spec.gpus, .string x.spec.tag, .bool x.spec.whole, .int .i64 x.spec.long, .int .i64 x.spec.prio, .slice A3 m3 c3, .int .i64 x.state, .int .i64 x.came, .int .i64 x.frm, .int .i64 x.to] 30)), p.now.cell? ⟨wr.heap.size, 7, none⟩ = some (.int .i64 x.spec.prio) := fun _ => Later.cell BX.out.lt BX.out.c7
              have zc8 : ∀ p : Later (wr.alloc (.cells #[.int .i64 x.id, .int .i64 x.spec.nodes, .int .i64 x.spec.cores, .int .i64 x.spec.gpus, .string x.spec.tag, .bool x.spec.whole, .int .i64 x.spec.long, .int .i64 x.spec.prio, .slice A3 m3 c3, .int .i64 x.state, .int .i64 x.came, .int .i64 x.frm, .int .i64 x.to] 30)), p.now.cell? ⟨wr.heap.size, 8, none⟩ = some (.slice A3 m3 c3) := fun _ => Later.cell BX.out.lt BX.out.c8
              have zc9 : ∀ p : Later (wr.alloc (.cells #[.int .i64 x.id, .int .i64 x.spec.nodes, .int .i64 x.spec.cores, .int .i64 x.spec.gpus, .string x.spec.tag, .bool x.spec.whole, .int .i64 x.spec.long, .int .i64 x.spec.prio, .slice A3 m3 c3, .int .i64 x.state, .int .i64 x.came, .int .i64 x.frm, .int .i64 x.to] 30)), p.now.cell? ⟨wr.heap.size, 9, none⟩ = some (.int .i64 x.state) := fun _ => Later.cell BX.out.lt BX.out.c9
              have zc10 : ∀ p : Later (wr.alloc (.cells #[.int .i64 x.id, .int .i64 x.spec.nodes, .int .i64 x.spec.cores, .int .i64 x.spec.gpus, .string x.spec.tag, .bool x.spec.whole, .int .i64 x.spec.long, .int .i64 x.spec.prio, .slice A3 m3 c3, .int .i64 x.state, .int .i64 x.came, .int .i64 x.frm, .int .i64 x.to] 30)), p.now.cell? ⟨wr.heap.size, 10, none⟩ = some (.int .i64 x.came) := fun _ => Later.cell BX.out.lt BX.out.c10
              have zc11 : ∀ p : Later (wr.alloc (.cells #[.int .i64 x.id, .int .i64 x.spec.nodes, .int .i64 x.spec.cores, .int .i64 x.spec.gpus, .string x.spec.tag, .bool x.spec.whole, .int .i64 x.spec.long, .int .i64 x.spec.prio, .slice A3 m3 c3, .int .i64 x.state, .int .i64 x.came, .int .i64 x.frm, .int .i64 x.to] 30)), p.now.cell? ⟨wr.heap.size, 11, none⟩ = some (.int .i64 x.frm) := fun _ => Later.cell BX.out.lt BX.out.c11
              have zc12 : ∀ p : Later (wr.alloc (.cells #[.int .i64 x.id, .int .i64 x.spec.nodes, .int .i64 x.spec.cores, .int .i64 x.spec.gpus, .string x.spec.tag, .bool x.spec.whole, .int .i64 x.spec.long, .int .i64 x.spec.prio, .slice A3 m3 c3, .int .i64 x.state, .int .i64 x.came, .int .i64 x.frm, .int .i64 x.to] 30)), p.now.cell? ⟨wr.heap.size, 12, none⟩ = some (.int .i64 x.to) := fun _ => Later.cell BX.out.lt BX.out.c12
              refine wp_region_later (by kernel_rfl) (by kernel_rfl) ?_
              repeat (first | go_big_quiet_skip | (go_big_quiet_want; go_big_quiet_op; first | go_big_quiet_on | (apply Exists.intro; refine ⟨fun pz => ?_, ?_⟩; (first | (go_at_call 32; exact Calls.later_of (jobRight_b (JA.out.next pz.bel) RV.out)) | (go_at_call 34; exact Calls.later_of (thereQ_b (c := c) ((QAw.out.next pz.bel).reads.cut HKN.out) HK1.out HRT.out (JA.out.next pz.bel).mask TV.out)) | fail); go_big_quiet_on)))
              refine wpQuiet_nil ?_
              intro _ hw'
              obtain ⟨pz, rfl⟩ := hw'
              obtain ⟨w1, hb⟩ := pz
              try dsimp only
              clear zc0 zc1 zc2 zc3 zc4 zc5 zc6 zc7 zc8 zc9 zc10 zc11 zc12
              have HBq := Lib.hid (HB.out.trans (hb.mono HB.out.size))
              clear HB
              have HB := HBq
              clear HBq
              have QAwq := Lib.hid (QAw.out.next hb)
              clear QAw
              have QAw := QAwq
              clear QAwq
              have JAq := Lib.hid (JA.out.next hb)
              clear JA
              have JA := JAq
              clear JAq
              have BXq := Lib.hid (BX.out.next hb)
              clear BX
              have BX := BXq
              clear BXq
              clear hb
              go_wp2
              go_ret
              exact ⟨ret_bl HV.out, HB.out⟩
            | true =>
              have TV := Lib.hid ht
              have HN : Hid (∀ i, i < 0 + 1 → StepQA l i) := Lib.hid (fun i hi => by
                by_cases e : i = 0
                · subst e
                  exact ⟨by rw [HX.out]; exact of_decide_eq_true RV.out, HRI.out, by rw [HX.out]; exact of_decide_eq_true TV.out⟩
                · exact HNA.out i (by omega))
              clear ht hv
              go_wp2_with fail
              have hb := Below.alloc (Below.refl wr.heap.size wr) (Nat.le_refl _) (.cells #[.int .i64 x.id, .int .i64 x.spec.nodes, .int .i64 x.spec.cores, .int .i64 x.spec.gpus, .string x.spec.tag, .bool x.spec.whole, .int .i64 x.spec.long, .int .i64 x.spec.prio, .slice A3 m3 c3, .int .i64 x.state, .int .i64 x.came, .int .i64 x.frm, .int .i64 x.to] 30)
              have BXq := Lib.hid (boxJ_new wr x A3 m3 c3)
              have HBq := Lib.hid (HB.out.trans (hb.mono HB.out.size))
              clear HB
              have HB := HBq
              clear HBq
              have QAwq := Lib.hid (QAw.out.next hb)
              clear QAw
              have QAw := QAwq
              clear QAwq
              have JAq := Lib.hid (JA.out.next hb)
              clear JA
              have JA := JAq
              clear JAq
              clear hb
              have BX := BXq
              clear BXq
              have q0' := BX.out.lt
              clear q0'
              go_wp2
              have zc0 : ∀ p : Later (wr.alloc (.cells #[.int .i64 x.id, .int .i64 x.spec.nodes, .int .i64 x.spec.cores, .int .i64 x.spec.gpus, .string x.spec.tag, .bool x.spec.whole, .int .i64 x.spec.long, .int .i64 x.spec.prio, .slice A3 m3 c3, .int .i64 x.state, .int .i64 x.came, .int .i64 x.frm, .int .i64 x.to] 30)), p.now.cell? ⟨wr.heap.size, 0, none⟩ = some (.int .i64 x.id) := fun _ => Later.cell BX.out.lt BX.out.c0
              have zc1 : ∀ p : Later (wr.alloc (.cells #[.int .i64 x.id, .int .i64 x.spec.nodes, .int .i64 x.spec.cores, .int .i64 x.spec.gpus, .string x.spec.tag, .bool x.spec.whole, .int .i64 x.spec.long, .int .i64 x.spec.prio, .slice A3 m3 c3, .int .i64 x.state, .int .i64 x.came, .int .i64 x.frm, .int .i64 x.to] 30)), p.now.cell? ⟨wr.heap.size, 1, none⟩ = some (.int .i64 x.spec.nodes) := fun _ => Later.cell BX.out.lt BX.out.c1
              have zc2 : ∀ p : Later (wr.alloc (.cells #[.int .i64 x.id, .int .i64 x.spec.nodes, .int .i64 x.spec.cores, .int .i64 x.spec.gpus, .string x.spec.tag, .bool x.spec.whole, .int .i64 x.spec.long, .int .i64 x.spec.prio, .slice A3 m3 c3, .int .i64 x.state, .int .i64 x.came, .int .i64 x.frm, .int .i64 x.to] 30)), p.now.cell? ⟨wr.heap.size, 2, none⟩ = some (.int .i64 x.spec.cores) := fun _ => Later.cell BX.out.lt BX.out.c2
              have zc3 : ∀ p : Later (wr.alloc (.cells #[.int .i64 x.id, .int .i64 x.spec.nodes, .int .i64 x.spec.cores, .int .i64 x.spec.gpus, .string x.spec.tag, .bool x.spec.whole, .int .i64 x.spec.long, .int .i64 x.spec.prio, .slice A3 m3 c3, .int .i64 x.state, .int .i64 x.came, .int .i64 x.frm, .int .i64 x.to] 30)), p.now.cell? ⟨wr.heap.size, 3, none⟩ = some (.int .i64 x.spec.gpus) := fun _ => Later.cell BX.out.lt BX.out.c3
              have zc4 : ∀ p : Later (wr.alloc (.cells #[.int .i64 x.id, .int .i64 x.spec.nodes, .int .i64 x.spec.cores, .int .i64 x.spec.gpus, .string x.spec.tag, .bool x.spec.whole, .int .i64 x.spec.long, .int .i64 x.spec.prio, .slice A3 m3 c3, .int .i64 x.state, .int .i64 x.came, .int .i64 x.frm, .int .i64 x.to] 30)), p.now.cell? ⟨wr.heap.size, 4, none⟩ = some (.string x.spec.tag) := fun _ => Later.cell BX.out.lt BX.out.c4
              have zc5 : ∀ p : Later (wr.alloc (.cells #[.int .i64 x.id, .int .i64 x.spec.nodes, .int .i64 x.spec.cores, .int .i64 x.spec.gpus, .string x.spec.tag, .bool x.spec.whole, .int .i64 x.spec.long, .int .i64 x.spec.prio, .slice A3 m3 c3, .int .i64 x.state, .int .i64 x.came, .int .i64 x.frm, .int .i64 x.to] 30)), p.now.cell? ⟨wr.heap.size, 5, none⟩ = some (.bool x.spec.whole) := fun _ => Later.cell BX.out.lt BX.out.c5
              have zc6 : ∀ p : Later (wr.alloc (.cells #[.int .i64 x.id, .int .i64 x.spec.nodes, .int .i64 x.spec.cores, .int .i64 x.spec.gpus, .string x.spec.tag, .bool x.spec.whole, .int .i64 x.spec.long, .int .i64 x.spec.prio, .slice A3 m3 c3, .int .i64 x.state, .int .i64 x.came, .int .i64 x.frm, .int .i64 x.to] 30)), p.now.cell? ⟨wr.heap.size, 6, none⟩ = some (.int .i64 x.spec.long) := fun _ => Later.cell BX.out.lt BX.out.c6
              have zc7 : ∀ p : Later (wr.alloc (.cells #[.int .i64 x.id, .int .i64 x.spec.nodes, .int .i64 x.spec.cores, .int .i64 x.spec.gpus, .string x.spec.tag, .bool x.spec.whole, .int .i64 x.spec.long, .int .i64 x.spec.prio, .slice A3 m3 c3, .int .i64 x.state, .int .i64 x.came, .int .i64 x.frm, .int .i64 x.to] 30)), p.now.cell? ⟨wr.heap.size, 7, none⟩ = some (.int .i64 x.spec.prio) := fun _ => Later.cell BX.out.lt BX.out.c7
              have zc8 : ∀ p : Later (wr.alloc (.cells #[.int .i64 x.id, .int .i64 x.spec.nodes, .int .i64 x.spec.cores, .int .i64 x.spec.gpus, .string x.spec.tag, .bool x.spec.whole, .int .i64 x.spec.long, .int .i64 x.spec.prio, .slice A3 m3 c3, .int .i64 x.state, .int .i64 x.came, .int .i64 x.frm, .int .i64 x.to] 30)), p.now.cell? ⟨wr.heap.size, 8, none⟩ = some (.slice A3 m3 c3) := fun _ => Later.cell BX.out.lt BX.out.c8
              have zc9 : ∀ p : Later (wr.alloc (.cells #[.int .i64 x.id, .int .i64 x.spec.nodes, .int .i64 x.spec.cores, .int .i64 x.spec.gpus, .string x.spec.tag, .bool x.spec.whole, .int .i64 x.spec.long, .int .i64 x.spec.prio, .slice A3 m3 c3, .int .i64 x.state, .int .i64 x.came, .int .i64 x.frm, .int .i64 x.to] 30)), p.now.cell? ⟨wr.heap.size, 9, none⟩ = some (.int .i64 x.state) := fun _ => Later.cell BX.out.lt BX.out.c9
              have zc10 : ∀ p : Later (wr.alloc (.cells #[.int .i64 x.id, .int .i64 x.spec.nodes, .int .i64 x.spec.cores, .int .i64 x.spec.gpus, .string x.spec.tag, .bool x.spec.whole, .int .i64 x.spec.long, .int .i64 x.spec.prio, .slice A3 m3 c3, .int .i64 x.state, .int .i64 x.came, .int .i64 x.frm, .int .i64 x.to] 30)), p.now.cell? ⟨wr.heap.size, 10, none⟩ = some (.int .i64 x.came) := fun _ => Later.cell BX.out.lt BX.out.c10
              have zc11 : ∀ p : Later (wr.alloc (.cells #[.int .i64 x.id, .int .i64 x.spec.nodes, .int .i64 x.spec.cores, .int .i64 x.spec.gpus, .string x.spec.tag, .bool x.spec.whole, .int .i64 x.spec.long, .int .i64 x.spec.prio, .slice A3 m3 c3, .int .i64 x.state, .int .i64 x.came, .int .i64 x.frm, .int .i64 x.to] 30)), p.now.cell? ⟨wr.heap.size, 11, none⟩ = some (.int .i64 x.frm) := fun _ => Later.cell BX.out.lt BX.out.c11
              have zc12 : ∀ p : Later (wr.alloc (.cells #[.int .i64 x.id, .int .i64 x.spec.nodes, .int .i64 x.spec.cores, .int .i64 x.spec.gpus, .string x.spec.tag, .bool x.spec.whole, .int .i64 x.spec.long, .int .i64 x.spec.prio, .slice A3 m3 c3, .int .i64 x.state, .int .i64 x.came, .int .i64 x.frm, .int .i64 x.to] 30)), p.now.cell? ⟨wr.heap.size, 12, none⟩ = some (.int .i64 x.to) := fun _ => Later.cell BX.out.lt BX.out.c12
              refine wp_region_later (by kernel_rfl) (by kernel_rfl) ?_
              repeat (first | go_big_quiet_skip | (go_big_quiet_want; go_big_quiet_op; first | go_big_quiet_on | (apply Exists.intro; refine ⟨fun pz => ?_, ?_⟩; (first | (go_at_call 32; exact Calls.later_of (jobRight_b (JA.out.next pz.bel) RV.out)) | (go_at_call 34; exact Calls.later_of (thereQ_b (c := c) ((QAw.out.next pz.bel).reads.cut HKN.out) HK1.out HRT.out (JA.out.next pz.bel).mask TV.out)) | fail); go_big_quiet_on)))
              refine wpQuiet_nil ?_
              intro _ hw'
              obtain ⟨pz, rfl⟩ := hw'
              obtain ⟨w1, hb⟩ := pz
              try dsimp only
              clear zc0 zc1 zc2 zc3 zc4 zc5 zc6 zc7 zc8 zc9 zc10 zc11 zc12
              have HBq := Lib.hid (HB.out.trans (hb.mono HB.out.size))
              clear HB
              have HB := HBq
              clear HBq
              have QAwq := Lib.hid (QAw.out.next hb)
              clear QAw
              have QAw := QAwq
              clear QAwq
              have JAq := Lib.hid (JA.out.next hb)
              clear JA
              have JA := JAq
              clear JAq
              have BXq := Lib.hid (BX.out.next hb)
              clear BX
              have BX := BXq
              clear BXq
              clear hb
              clear e0 e1 e2 e3 e4 e5 e6 e7 e8 e9 e10 e11 e12
              go_wp2
              go_roundw
              case rel => exact ⟨0 + 1, by omega, by go_num, HN.out, HB.out⟩
              case measure => simp [intOf]; omega
          · have hk1 : (0 : Int) < (k : Int) := by omega
            have hkm : k - 1 < n := by omega
            have hkc : k ≤ c := Nat.le_trans hk QAw.out.cap
            have hkd : decide (0 < k) = true := decide_eq_true (by omega)
            have hkz : decide ((0 : Int) < (k : Int)) = true := decide_eq_true (by omega)
            obtain ⟨b', off', A4, m4, c4, eA, _, ⟨f0, f1, f2, f3, f4, f5, f6, f7, f8, f9, f10, f11, f12⟩, _⟩ := QAw.out.reads.one hkm
            injection eA with eA
            injection eA with eB eO _
            subst eB eO
            obtain ⟨y, hy⟩ : ∃ y, jAt l (k - 1) = y := ⟨_, rfl⟩
            rw [hy] at f0 f1 f2 f3 f4 f5 f6 f7 f9 f10 f11 f12
            have HY := Lib.hid hy
            have HKP : Hid (0 < k) := Lib.hid (by omega)
            clear hy hk0
            cases hfo : followsJ y x with
            | false =>
              have FV : Hid (followsJ y x = false) := Lib.hid hfo
              have HV : Hid (rightQ l = false) := Lib.hid (decide_eq_false fun h => of_decide_eq_false FV.out (by have := ((rightQ_steps.1 h).2 k HKL.out).2.1 HKP.out; rw [HX.out, HY.out] at this; exact this))
              clear hv hfo
              go_wp2_with fail
              have hb := Below.alloc (Below.refl wr.heap.size wr) (Nat.le_refl _) (.cells #[.int .i64 x.id, .int .i64 x.spec.nodes, .int .i64 x.spec.cores, .int .i64 x.spec.gpus, .string x.spec.tag, .bool x.spec.whole, .int .i64 x.spec.long, .int .i64 x.spec.prio, .slice A3 m3 c3, .int .i64 x.state, .int .i64 x.came, .int .i64 x.frm, .int .i64 x.to] 30)
              have BXq := Lib.hid (boxJ_new wr x A3 m3 c3)
              have HBq := Lib.hid (HB.out.trans (hb.mono HB.out.size))
              clear HB
              have HB := HBq
              clear HBq
              have QAwq := Lib.hid (QAw.out.next hb)
              clear QAw
              have QAw := QAwq
              clear QAwq
              have JAq := Lib.hid (JA.out.next hb)
              clear JA
              have JA := JAq
              clear JAq
              clear hb
              have BX := BXq
              clear BXq
              have q0' := BX.out.lt
              clear q0'
              go_wp2
              have zc0 : ∀ p : Later (wr.alloc (.cells #[.int .i64 x.id, .int .i64 x.spec.nodes, .int .i64 x.spec.cores, .int .i64 x.spec.gpus, .string x.spec.tag, .bool x.spec.whole, .int .i64 x.spec.long, .int .i64 x.spec.prio, .slice A3 m3 c3, .int .i64 x.state, .int .i64 x.came, .int .i64 x.frm, .int .i64 x.to] 30)), p.now.cell? ⟨wr.heap.size, 0, none⟩ = some (.int .i64 x.id) := fun _ => Later.cell BX.out.lt BX.out.c0
              have zc1 : ∀ p : Later (wr.alloc (.cells #[.int .i64 x.id, .int .i64 x.spec.nodes, .int .i64 x.spec.cores, .int .i64 x.spec.gpus, .string x.spec.tag, .bool x.spec.whole, .int .i64 x.spec.long, .int .i64 x.spec.prio, .slice A3 m3 c3, .int .i64 x.state, .int .i64 x.came, .int .i64 x.frm, .int .i64 x.to] 30)), p.now.cell? ⟨wr.heap.size, 1, none⟩ = some (.int .i64 x.spec.nodes) := fun _ => Later.cell BX.out.lt BX.out.c1
              have zc2 : ∀ p : Later (wr.alloc (.cells #[.int .i64 x.id, .int .i64 x.spec.nodes, .int .i64 x.spec.cores, .int .i64 x.spec.gpus, .string x.spec.tag, .bool x.spec.whole, .int .i64 x.spec.long, .int .i64 x.spec.prio, .slice A3 m3 c3, .int .i64 x.state, .int .i64 x.came, .int .i64 x.frm, .int .i64 x.to] 30)), p.now.cell? ⟨wr.heap.size, 2, none⟩ = some (.int .i64 x.spec.cores) := fun _ => Later.cell BX.out.lt BX.out.c2
              have zc3 : ∀ p : Later (wr.alloc (.cells #[.int .i64 x.id, .int .i64 x.spec.nodes, .int .i64 x.spec.cores, .int .i64 x.spec.gpus, .string x.spec.tag, .bool x.spec.whole, .int .i64 x.spec.long, .int .i64 x.spec.prio, .slice A3 m3 c3, .int .i64 x.state, .int .i64 x.came, .int .i64 x.frm, .int .i64 x.to] 30)), p.now.cell? ⟨wr.heap.size, 3, none⟩ = some (.int .i64 x.spec.gpus) := fun _ => Later.cell BX.out.lt BX.out.c3
              have zc4 : ∀ p : Later (wr.alloc (.cells #[.int .i64 x.id, .int .i64 x.spec.nodes, .int .i64 x.spec.cores, .int .i64 x.spec.gpus, .string x.spec.tag, .bool x.spec.whole, .int .i64 x.spec.long, .int .i64 x.spec.prio, .slice A3 m3 c3, .int .i64 x.state, .int .i64 x.came, .int .i64 x.frm, .int .i64 x.to] 30)), p.now.cell? ⟨wr.heap.size, 4, none⟩ = some (.string x.spec.tag) := fun _ => Later.cell BX.out.lt BX.out.c4
              have zc5 : ∀ p : Later (wr.alloc (.cells #[.int .i64 x.id, .int .i64 x.spec.nodes, .int .i64 x.spec.cores, .int .i64 x.spec.gpus, .string x.spec.tag, .bool x.spec.whole, .int .i64 x.spec.long, .int .i64 x.spec.prio, .slice A3 m3 c3, .int .i64 x.state, .int .i64 x.came, .int .i64 x.frm, .int .i64 x.to] 30)), p.now.cell? ⟨wr.heap.size, 5, none⟩ = some (.bool x.spec.whole) := fun _ => Later.cell BX.out.lt BX.out.c5
              have zc6 : ∀ p : Later (wr.alloc (.cells #[.int .i64 x.id, .int .i64 x.spec.nodes, .int .i64 x.spec.cores, .int .i64 x.spec.gpus, .string x.spec.tag, .bool x.spec.whole, .int .i64 x.spec.long, .int .i64 x.spec.prio, .slice A3 m3 c3, .int .i64 x.state, .int .i64 x.came, .int .i64 x.frm, .int .i64 x.to] 30)), p.now.cell? ⟨wr.heap.size, 6, none⟩ = some (.int .i64 x.spec.long) := fun _ => Later.cell BX.out.lt BX.out.c6
              have zc7 : ∀ p : Later (wr.alloc (.cells #[.int .i64 x.id, .int .i64 x.spec.nodes, .int .i64 x.spec.cores, .int .i64 x.spec.gpus, .string x.spec.tag, .bool x.spec.whole, .int .i64 x.spec.long, .int .i64 x.spec.prio, .slice A3 m3 c3, .int .i64 x.state, .int .i64 x.came, .int .i64 x.frm, .int .i64 x.to] 30)), p.now.cell? ⟨wr.heap.size, 7, none⟩ = some (.int .i64 x.spec.prio) := fun _ => Later.cell BX.out.lt BX.out.c7
              have zc8 : ∀ p : Later (wr.alloc (.cells #[.int .i64 x.id, .int .i64 x.spec.nodes, .int .i64 x.spec.cores, .int .i64 x.spec.gpus, .string x.spec.tag, .bool x.spec.whole, .int .i64 x.spec.long, .int .i64 x.spec.prio, .slice A3 m3 c3, .int .i64 x.state, .int .i64 x.came, .int .i64 x.frm, .int .i64 x.to] 30)), p.now.cell? ⟨wr.heap.size, 8, none⟩ = some (.slice A3 m3 c3) := fun _ => Later.cell BX.out.lt BX.out.c8
              have zc9 : ∀ p : Later (wr.alloc (.cells #[.int .i64 x.id, .int .i64 x.spec.nodes, .int .i64 x.spec.cores, .int .i64 x.spec.gpus, .string x.spec.tag, .bool x.spec.whole, .int .i64 x.spec.long, .int .i64 x.spec.prio, .slice A3 m3 c3, .int .i64 x.state, .int .i64 x.came, .int .i64 x.frm, .int .i64 x.to] 30)), p.now.cell? ⟨wr.heap.size, 9, none⟩ = some (.int .i64 x.state) := fun _ => Later.cell BX.out.lt BX.out.c9
              have zc10 : ∀ p : Later (wr.alloc (.cells #[.int .i64 x.id, .int .i64 x.spec.nodes, .int .i64 x.spec.cores, .int .i64 x.spec.gpus, .string x.spec.tag, .bool x.spec.whole, .int .i64 x.spec.long, .int .i64 x.spec.prio, .slice A3 m3 c3, .int .i64 x.state, .int .i64 x.came, .int .i64 x.frm, .int .i64 x.to] 30)), p.now.cell? ⟨wr.heap.size, 10, none⟩ = some (.int .i64 x.came) := fun _ => Later.cell BX.out.lt BX.out.c10
              have zc11 : ∀ p : Later (wr.alloc (.cells #[.int .i64 x.id, .int .i64 x.spec.nodes, .int .i64 x.spec.cores, .int .i64 x.spec.gpus, .string x.spec.tag, .bool x.spec.whole, .int .i64 x.spec.long, .int .i64 x.spec.prio, .slice A3 m3 c3, .int .i64 x.state, .int .i64 x.came, .int .i64 x.frm, .int .i64 x.to] 30)), p.now.cell? ⟨wr.heap.size, 11, none⟩ = some (.int .i64 x.frm) := fun _ => Later.cell BX.out.lt BX.out.c11
              have zc12 : ∀ p : Later (wr.alloc (.cells #[.int .i64 x.id, .int .i64 x.spec.nodes, .int .i64 x.spec.cores, .int .i64 x.spec.gpus, .string x.spec.tag, .bool x.spec.whole, .int .i64 x.spec.long, .int .i64 x.spec.prio, .slice A3 m3 c3, .int .i64 x.state, .int .i64 x.came, .int .i64 x.frm, .int .i64 x.to] 30)), p.now.cell? ⟨wr.heap.size, 12, none⟩ = some (.int .i64 x.to) := fun _ => Later.cell BX.out.lt BX.out.c12
              have zc13 : ∀ p : Later (wr.alloc (.cells #[.int .i64 x.id, .int .i64 x.spec.nodes, .int .i64 x.spec.cores, .int .i64 x.spec.gpus, .string x.spec.tag, .bool x.spec.whole, .int .i64 x.spec.long, .int .i64 x.spec.prio, .slice A3 m3 c3, .int .i64 x.state, .int .i64 x.came, .int .i64 x.frm, .int .i64 x.to] 30)), p.now.cell? ⟨b, off + (k - 1) * 13, none⟩ = some (.int .i64 y.id) := fun _ => Later.cell (Nat.lt_of_lt_of_le hb1 (by simp)) (keep_cell (wx := (wr.alloc (.cells #[.int .i64 x.id, .int .i64 x.spec.nodes, .int .i64 x.spec.cores, .int .i64 x.spec.gpus, .string x.spec.tag, .bool x.spec.whole, .int .i64 x.spec.long, .int .i64 x.spec.prio, .slice A3 m3 c3, .int .i64 x.state, .int .i64 x.came, .int .i64 x.frm, .int .i64 x.to] 30))) hb1 f0 ((Below.refl _ _).alloc (Nat.le_refl _) _))
              have zc14 : ∀ p : Later (wr.alloc (.cells #[.int .i64 x.id, .int .i64 x.spec.nodes, .int .i64 x.spec.cores, .int .i64 x.spec.gpus, .string x.spec.tag, .bool x.spec.whole, .int .i64 x.spec.long, .int .i64 x.spec.prio, .slice A3 m3 c3, .int .i64 x.state, .int .i64 x.came, .int .i64 x.frm, .int .i64 x.to] 30)), p.now.cell? ⟨b, off + (k - 1) * 13 + 1, none⟩ = some (.int .i64 y.spec.nodes) := fun _ => Later.cell (Nat.lt_of_lt_of_le hb1 (by simp)) (keep_cell (wx := (wr.alloc (.cells #[.int .i64 x.id, .int .i64 x.spec.nodes, .int .i64 x.spec.cores, .int .i64 x.spec.gpus, .string x.spec.tag, .bool x.spec.whole, .int .i64 x.spec.long, .int .i64 x.spec.prio, .slice A3 m3 c3, .int .i64 x.state, .int .i64 x.came, .int .i64 x.frm, .int .i64 x.to] 30))) hb1 f1 ((Below.refl _ _).alloc (Nat.le_refl _) _))
              have zc15 : ∀ p : Later (wr.alloc (.cells #[.int .i64 x.id, .int .i64 x.spec.nodes, .int .i64 x.spec.cores, .int .i64 x.spec.gpus, .string x.spec.tag, .bool x.spec.whole, .int .i64 x.spec.long, .int .i64 x.spec.prio, .slice A3 m3 c3, .int .i64 x.state, .int .i64 x.came, .int .i64 x.frm, .int .i64 x.to] 30)), p.now.cell? ⟨b, off + (k - 1) * 13 + 2, none⟩ = some (.int .i64 y.spec.cores) := fun _ => Later.cell (Nat.lt_of_lt_of_le hb1 (by simp)) (keep_cell (wx := (wr.alloc (.cells #[.int .i64 x.id, .int .i64 x.spec.nodes, .int .i64 x.spec.cores, .int .i64 x.spec.gpus, .string x.spec.tag, .bool x.spec.whole, .int .i64 x.spec.long, .int .i64 x.spec.prio, .slice A3 m3 c3, .int .i64 x.state, .int .i64 x.came, .int .i64 x.frm, .int .i64 x.to] 30))) hb1 f2 ((Below.refl _ _).alloc (Nat.le_refl _) _))
              have zc16 : ∀ p : Later (wr.alloc (.cells #[.int .i64 x.id, .int .i64 x.spec.nodes, .int .i64 x.spec.cores, .int .i64 x.spec.gpus, .string x.spec.tag, .bool x.spec.whole, .int .i64 x.spec.long, .int .i64 x.spec.prio, .slice A3 m3 c3, .int .i64 x.state, .int .i64 x.came, .int .i64 x.frm, .int .i64 x.to] 30)), p.now.cell? ⟨b, off + (k - 1) * 13 + 3, none⟩ = some (.int .i64 y.spec.gpus) := fun _ => Later.cell (Nat.lt_of_lt_of_le hb1 (by simp)) (keep_cell (wx := (wr.alloc (.cells #[.int .i64 x.id, .int .i64 x.spec.nodes, .int .i64 x.spec.cores, .int .i64 x.spec.gpus, .string x.spec.tag, .bool x.spec.whole, .int .i64 x.spec.long, .int .i64 x.spec.prio, .slice A3 m3 c3, .int .i64 x.state, .int .i64 x.came, .int .i64 x.frm, .int .i64 x.to] 30))) hb1 f3 ((Below.refl _ _).alloc (Nat.le_refl _) _))
              have zc17 : ∀ p : Later (wr.alloc (.cells #[.int .i64 x.id, .int .i64 x.spec.nodes, .int .i64 x.spec.cores, .int .i64 x.spec.gpus, .string x.spec.tag, .bool x.spec.whole, .int .i64 x.spec.long, .int .i64 x.spec.prio, .slice A3 m3 c3, .int .i64 x.state, .int .i64 x.came, .int .i64 x.frm, .int .i64 x.to] 30)), p.now.cell? ⟨b, off + (k - 1) * 13 + 4, none⟩ = some (.string y.spec.tag) := fun _ => Later.cell (Nat.lt_of_lt_of_le hb1 (by simp)) (keep_cell (wx := (wr.alloc (.cells #[.int .i64 x.id, .int .i64 x.spec.nodes, .int .i64 x.spec.cores, .int .i64 x.spec.gpus, .string x.spec.tag, .bool x.spec.whole, .int .i64 x.spec.long, .int .i64 x.spec.prio, .slice A3 m3 c3, .int .i64 x.state, .int .i64 x.came, .int .i64 x.frm, .int .i64 x.to] 30))) hb1 f4 ((Below.refl _ _).alloc (Nat.le_refl _) _))
              have zc18 : ∀ p : Later (wr.alloc (.cells #[.int .i64 x.id, .int .i64 x.spec.nodes, .int .i64 x.spec.cores, .int .i64 x.spec.gpus, .string x.spec.tag, .bool x.spec.whole, .int .i64 x.spec.long, .int .i64 x.spec.prio, .slice A3 m3 c3, .int .i64 x.state, .int .i64 x.came, .int .i64 x.frm, .int .i64 x.to] 30)), p.now.cell? ⟨b, off + (k - 1) * 13 + 5, none⟩ = some (.bool y.spec.whole) := fun _ => Later.cell (Nat.lt_of_lt_of_le hb1 (by simp)) (keep_cell (wx := (wr.alloc (.cells #[.int .i64 x.id, .int .i64 x.spec.nodes, .int .i64 x.spec.cores, .int .i64 x.spec.gpus, .string x.spec.tag, .bool x.spec.whole, .int .i64 x.spec.long, .int .i64 x.spec.prio, .slice A3 m3 c3, .int .i64 x.state, .int .i64 x.came, .int .i64 x.frm, .int .i64 x.to] 30))) hb1 f5 ((Below.refl _ _).alloc (Nat.le_refl _) _))
              have zc19 : ∀ p : Later (wr.alloc (.cells #[.int .i64 x.id, .int .i64 x.spec.nodes, .int .i64 x.spec.cores, .int .i64 x.spec.gpus, .string x.spec.tag, .bool x.spec.whole, .int .i64 x.spec.long, .int .i64 x.spec.prio, .slice A3 m3 c3, .int .i64 x.state, .int .i64 x.came, .int .i64 x.frm, .int .i64 x.to] 30)), p.now.cell? ⟨b, off + (k - 1) * 13 + 6, none⟩ = some (.int .i64 y.spec.long) := fun _ => Later.cell (Nat.lt_of_lt_of_le hb1 (by simp)) (keep_cell (wx := (wr.alloc (.cells #[.int .i64 x.id, .int .i64 x.spec.nodes, .int .i64 x.spec.cores, .int .i64 x.spec.gpus, .string x.spec.tag, .bool x.spec.whole, .int .i64 x.spec.long, .int .i64 x.spec.prio, .slice A3 m3 c3, .int .i64 x.state, .int .i64 x.came, .int .i64 x.frm, .int .i64 x.to] 30))) hb1 f6 ((Below.refl _ _).alloc (Nat.le_refl _) _))
              have zc20 : ∀ p : Later (wr.alloc (.cells #[.int .i64 x.id, .int .i64 x.spec.nodes, .int .i64 x.spec.cores, .int .i64 x.spec.gpus, .string x.spec.tag, .bool x.spec.whole, .int .i64 x.spec.long, .int .i64 x.spec.prio, .slice A3 m3 c3, .int .i64 x.state, .int .i64 x.came, .int .i64 x.frm, .int .i64 x.to] 30)), p.now.cell? ⟨b, off + (k - 1) * 13 + 7, none⟩ = some (.int .i64 y.spec.prio) := fun _ => Later.cell (Nat.lt_of_lt_of_le hb1 (by simp)) (keep_cell (wx := (wr.alloc (.cells #[.int .i64 x.id, .int .i64 x.spec.nodes, .int .i64 x.spec.cores, .int .i64 x.spec.gpus, .string x.spec.tag, .bool x.spec.whole, .int .i64 x.spec.long, .int .i64 x.spec.prio, .slice A3 m3 c3, .int .i64 x.state, .int .i64 x.came, .int .i64 x.frm, .int .i64 x.to] 30))) hb1 f7 ((Below.refl _ _).alloc (Nat.le_refl _) _))
              have zc21 : ∀ p : Later (wr.alloc (.cells #[.int .i64 x.id, .int .i64 x.spec.nodes, .int .i64 x.spec.cores, .int .i64 x.spec.gpus, .string x.spec.tag, .bool x.spec.whole, .int .i64 x.spec.long, .int .i64 x.spec.prio, .slice A3 m3 c3, .int .i64 x.state, .int .i64 x.came, .int .i64 x.frm, .int .i64 x.to] 30)), p.now.cell? ⟨b, off + (k - 1) * 13 + 8, none⟩ = some (.slice A4 m4 c4) := fun _ => Later.cell (Nat.lt_of_lt_of_le hb1 (by simp)) (keep_cell (wx := (wr.alloc (.cells #[.int .i64 x.id, .int .i64 x.spec.nodes, .int .i64 x.spec.cores, .int .i64 x.spec.gpus, .string x.spec.tag, .bool x.spec.whole, .int .i64 x.spec.long, .int .i64 x.spec.prio, .slice A3 m3 c3, .int .i64 x.state, .int .i64 x.came, .int .i64 x.frm, .int .i64 x.to] 30))) hb1 f8 ((Below.refl _ _).alloc (Nat.le_refl _) _))
              have zc22 : ∀ p : Later (wr.alloc (.cells #[.int .i64 x.id, .int .i64 x.spec.nodes, .int .i64 x.spec.cores, .int .i64 x.spec.gpus, .string x.spec.tag, .bool x.spec.whole, .int .i64 x.spec.long, .int .i64 x.spec.prio, .slice A3 m3 c3, .int .i64 x.state, .int .i64 x.came, .int .i64 x.frm, .int .i64 x.to] 30)), p.now.cell? ⟨b, off + (k - 1) * 13 + 9, none⟩ = some (.int .i64 y.state) := fun _ => Later.cell (Nat.lt_of_lt_of_le hb1 (by simp)) (keep_cell (wx := (wr.alloc (.cells #[.int .i64 x.id, .int .i64 x.spec.nodes, .int .i64 x.spec.cores, .int .i64 x.spec.gpus, .string x.spec.tag, .bool x.spec.whole, .int .i64 x.spec.long, .int .i64 x.spec.prio, .slice A3 m3 c3, .int .i64 x.state, .int .i64 x.came, .int .i64 x.frm, .int .i64 x.to] 30))) hb1 f9 ((Below.refl _ _).alloc (Nat.le_refl _) _))
              have zc23 : ∀ p : Later (wr.alloc (.cells #[.int .i64 x.id, .int .i64 x.spec.nodes, .int .i64 x.spec.cores, .int .i64 x.spec.gpus, .string x.spec.tag, .bool x.spec.whole, .int .i64 x.spec.long, .int .i64 x.spec.prio, .slice A3 m3 c3, .int .i64 x.state, .int .i64 x.came, .int .i64 x.frm, .int .i64 x.to] 30)), p.now.cell? ⟨b, off + (k - 1) * 13 + 10, none⟩ = some (.int .i64 y.came) := fun _ => Later.cell (Nat.lt_of_lt_of_le hb1 (by simp)) (keep_cell (wx := (wr.alloc (.cells #[.int .i64 x.id, .int .i64 x.spec.nodes, .int .i64 x.spec.cores, .int .i64 x.spec.gpus, .string x.spec.tag, .bool x.spec.whole, .int .i64 x.spec.long, .int .i64 x.spec.prio, .slice A3 m3 c3, .int .i64 x.state, .int .i64 x.came, .int .i64 x.frm, .int .i64 x.to] 30))) hb1 f10 ((Below.refl _ _).alloc (Nat.le_refl _) _))
              have zc24 : ∀ p : Later (wr.alloc (.cells #[.int .i64 x.id, .int .i64 x.spec.nodes, .int .i64 x.spec.cores, .int .i64 x.spec.gpus, .string x.spec.tag, .bool x.spec.whole, .int .i64 x.spec.long, .int .i64 x.spec.prio, .slice A3 m3 c3, .int .i64 x.state, .int .i64 x.came, .int .i64 x.frm, .int .i64 x.to] 30)), p.now.cell? ⟨b, off + (k - 1) * 13 + 11, none⟩ = some (.int .i64 y.frm) := fun _ => Later.cell (Nat.lt_of_lt_of_le hb1 (by simp)) (keep_cell (wx := (wr.alloc (.cells #[.int .i64 x.id, .int .i64 x.spec.nodes, .int .i64 x.spec.cores, .int .i64 x.spec.gpus, .string x.spec.tag, .bool x.spec.whole, .int .i64 x.spec.long, .int .i64 x.spec.prio, .slice A3 m3 c3, .int .i64 x.state, .int .i64 x.came, .int .i64 x.frm, .int .i64 x.to] 30))) hb1 f11 ((Below.refl _ _).alloc (Nat.le_refl _) _))
              have zc25 : ∀ p : Later (wr.alloc (.cells #[.int .i64 x.id, .int .i64 x.spec.nodes, .int .i64 x.spec.cores, .int .i64 x.spec.gpus, .string x.spec.tag, .bool x.spec.whole, .int .i64 x.spec.long, .int .i64 x.spec.prio, .slice A3 m3 c3, .int .i64 x.state, .int .i64 x.came, .int .i64 x.frm, .int .i64 x.to] 30)), p.now.cell? ⟨b, off + (k - 1) * 13 + 12, none⟩ = some (.int .i64 y.to) := fun _ => Later.cell (Nat.lt_of_lt_of_le hb1 (by simp)) (keep_cell (wx := (wr.alloc (.cells #[.int .i64 x.id, .int .i64 x.spec.nodes, .int .i64 x.spec.cores, .int .i64 x.spec.gpus, .string x.spec.tag, .bool x.spec.whole, .int .i64 x.spec.long, .int .i64 x.spec.prio, .slice A3 m3 c3, .int .i64 x.state, .int .i64 x.came, .int .i64 x.frm, .int .i64 x.to] 30))) hb1 f12 ((Below.refl _ _).alloc (Nat.le_refl _) _))
              refine wp_region_later (by kernel_rfl) (by kernel_rfl) ?_
              repeat (first | go_big_quiet_skip | (go_big_quiet_want; go_big_quiet_op; first | go_big_quiet_on | (apply Exists.intro; refine ⟨fun pz => ?_, ?_⟩; (first | (go_at_call 32; exact Calls.later_of (jobRight_b (JA.out.next pz.bel) RV.out)) | (go_at_call 33; exact Calls.later_of (followsQ_b FV.out)) | fail); go_big_quiet_on)))
              refine wpQuiet_nil ?_
              intro _ hw'
              obtain ⟨pz, rfl⟩ := hw'
              obtain ⟨w1, hb⟩ := pz
              try dsimp only
              clear zc0 zc1 zc2 zc3 zc4 zc5 zc6 zc7 zc8 zc9 zc10 zc11 zc12 zc13 zc14 zc15 zc16 zc17 zc18 zc19 zc20 zc21 zc22 zc23 zc24 zc25
              have HBq := Lib.hid (HB.out.trans (hb.mono HB.out.size))
              clear HB
              have HB := HBq
              clear HBq
              have QAwq := Lib.hid (QAw.out.next hb)
              clear QAw
              have QAw := QAwq
              clear QAwq
              have JAq := Lib.hid (JA.out.next hb)
              clear JA
              have JA := JAq
              clear JAq
              have BXq := Lib.hid (BX.out.next hb)
              clear BX
              have BX := BXq
              clear BXq
              clear hb
              go_wp2
              go_ret
              exact ⟨ret_bl HV.out, HB.out⟩
            | true =>
              have FV : Hid (followsJ y x = true) := Lib.hid hfo
              have HRI : Hid (RiseAt l k) := Lib.hid (fun _ => by rw [HX.out, HY.out]; exact of_decide_eq_true FV.out)
              clear hfo
              cases ht : decide (AllHas (l.take k) x.needs) with
              | false =>
                have TV := Lib.hid ht
                have HV : Hid (rightQ l = false) := Lib.hid (decide_eq_false fun h => of_decide_eq_false TV.out (by have := ((rightQ_steps.1 h).2 k HKL.out).2.2; rw [HX.out] at this; exact this))
                clear ht hv
                go_wp2_with fail
                have hb := Below.alloc (Below.refl wr.heap.size wr) (Nat.le_refl _) (.cells #[.int .i64 x.id, .int .i64 x.spec.nodes, .int .i64 x.spec.cores, .int .i64 x.spec.gpus, .string x.spec.tag, .bool x.spec.whole, .int .i64 x.spec.long, .int .i64 x.spec.prio, .slice A3 m3 c3, .int .i64 x.state, .int .i64 x.came, .int .i64 x.frm, .int .i64 x.to] 30)
                have BXq := Lib.hid (boxJ_new wr x A3 m3 c3)
                have HBq := Lib.hid (HB.out.trans (hb.mono HB.out.size))
                clear HB
                have HB := HBq
                clear HBq
                have QAwq := Lib.hid (QAw.out.next hb)
                clear QAw
                have QAw := QAwq
                clear QAwq
                have JAq := Lib.hid (JA.out.next hb)
                clear JA
                have JA := JAq
                clear JAq
                clear hb
                have BX := BXq
                clear BXq
                have q0' := BX.out.lt
                clear q0'
                go_wp2
                have zc0 : ∀ p : Later (wr.alloc (.cells #[.int .i64 x.id, .int .i64 x.spec.nodes, .int .i64 x.spec.cores, .int .i64 x.spec.gpus, .string x.spec.tag, .bool x.spec.whole, .int .i64 x.spec.long, .int .i64 x.spec.prio, .slice A3 m3 c3, .int .i64 x.state, .int .i64 x.came, .int .i64 x.frm, .int .i64 x.to] 30)), p.now.cell? ⟨wr.heap.size, 0, none⟩ = some (.int .i64 x.id) := fun _ => Later.cell BX.out.lt BX.out.c0
                have zc1 : ∀ p : Later (wr.alloc (.cells #[.int .i64 x.id, .int .i64 x.spec.nodes, .int .i64 x.spec.cores, .int .i64 x.spec.gpus, .string x.spec.tag, .bool x.spec.whole, .int .i64 x.spec.long, .int .i64 x.spec.prio, .slice A3 m3 c3, .int .i64 x.state, .int .i64 x.came, .int .i64 x.frm, .int .i64 x.to] 30)), p.now.cell? ⟨wr.heap.size, 1, none⟩ = some (.int .i64 x.spec.nodes) := fun _ => Later.cell BX.out.lt BX.out.c1
                have zc2 : ∀ p : Later (wr.alloc (.cells #[.int .i64 x.id, .int .i64 x.spec.nodes, .int .i64 x.spec.cores, .int .i64 x.spec.gpus, .string x.spec.tag, .bool x.spec.whole, .int .i64 x.spec.long, .int .i64 x.spec.prio, .slice A3 m3 c3, .int .i64 x.state, .int .i64 x.came, .int .i64 x.frm, .int .i64 x.to] 30)), p.now.cell? ⟨wr.heap.size, 2, none⟩ = some (.int .i64 x.spec.cores) := fun _ => Later.cell BX.out.lt BX.out.c2
                have zc3 : ∀ p : Later (wr.alloc (.cells #[.int .i64 x.id, .int .i64 x.spec.nodes, .int .i64 x.spec.cores, .int .i64 x.spec.gpus, .string x.spec.tag, .bool x.spec.whole, .int .i64 x.spec.long, .int .i64 x.spec.prio, .slice A3 m3 c3, .int .i64 x.state, .int .i64 x.came, .int .i64 x.frm, .int .i64 x.to] 30)), p.now.cell? ⟨wr.heap.size, 3, none⟩ = some (.int .i64 x.spec.gpus) := fun _ => Later.cell BX.out.lt BX.out.c3
                have zc4 : ∀ p : Later (wr.alloc (.cells #[.int .i64 x.id, .int .i64 x.spec.nodes, .int .i64 x.spec.cores, .int .i64 x.spec.gpus, .string x.spec.tag, .bool x.spec.whole, .int .i64 x.spec.long, .int .i64 x.spec.prio, .slice A3 m3 c3, .int .i64 x.state, .int .i64 x.came, .int .i64 x.frm, .int .i64 x.to] 30)), p.now.cell? ⟨wr.heap.size, 4, none⟩ = some (.string x.spec.tag) := fun _ => Later.cell BX.out.lt BX.out.c4
                have zc5 : ∀ p : Later (wr.alloc (.cells #[.int .i64 x.id, .int .i64 x.spec.nodes, .int .i64 x.spec.cores, .int .i64 x.spec.gpus, .string x.spec.tag, .bool x.spec.whole, .int .i64 x.spec.long, .int .i64 x.spec.prio, .slice A3 m3 c3, .int .i64 x.state, .int .i64 x.came, .int .i64 x.frm, .int .i64 x.to] 30)), p.now.cell? ⟨wr.heap.size, 5, none⟩ = some (.bool x.spec.whole) := fun _ => Later.cell BX.out.lt BX.out.c5
                have zc6 : ∀ p : Later (wr.alloc (.cells #[.int .i64 x.id, .int .i64 x.spec.nodes, .int .i64 x.spec.cores, .int .i64 x.spec.gpus, .string x.spec.tag, .bool x.spec.whole, .int .i64 x.spec.long, .int .i64 x.spec.prio, .slice A3 m3 c3, .int .i64 x.state, .int .i64 x.came, .int .i64 x.frm, .int .i64 x.to] 30)), p.now.cell? ⟨wr.heap.size, 6, none⟩ = some (.int .i64 x.spec.long) := fun _ => Later.cell BX.out.lt BX.out.c6
                have zc7 : ∀ p : Later (wr.alloc (.cells #[.int .i64 x.id, .int .i64 x.spec.nodes, .int .i64 x.spec.cores, .int .i64 x.spec.gpus, .string x.spec.tag, .bool x.spec.whole, .int .i64 x.spec.long, .int .i64 x.spec.prio, .slice A3 m3 c3, .int .i64 x.state, .int .i64 x.came, .int .i64 x.frm, .int .i64 x.to] 30)), p.now.cell? ⟨wr.heap.size, 7, none⟩ = some (.int .i64 x.spec.prio) := fun _ => Later.cell BX.out.lt BX.out.c7
                have zc8 : ∀ p : Later (wr.alloc (.cells #[.int .i64 x.id, .int .i64 x.spec.nodes, .int .i64 x.spec.cores, .int .i64 x.spec.gpus, .string x.spec.tag, .bool x.spec.whole, .int .i64 x.spec.long, .int .i64 x.spec.prio, .slice A3 m3 c3, .int .i64 x.state, .int .i64 x.came, .int .i64 x.frm, .int .i64 x.to] 30)), p.now.cell? ⟨wr.heap.size, 8, none⟩ = some (.slice A3 m3 c3) := fun _ => Later.cell BX.out.lt BX.out.c8
                have zc9 : ∀ p : Later (wr.alloc (.cells #[.int .i64 x.id, .int .i64 x.spec.nodes, .int .i64 x.spec.cores, .int .i64 x.spec.gpus, .string x.spec.tag, .bool x.spec.whole, .int .i64 x.spec.long, .int .i64 x.spec.prio, .slice A3 m3 c3, .int .i64 x.state, .int .i64 x.came, .int .i64 x.frm, .int .i64 x.to] 30)), p.now.cell? ⟨wr.heap.size, 9, none⟩ = some (.int .i64 x.state) := fun _ => Later.cell BX.out.lt BX.out.c9
                have zc10 : ∀ p : Later (wr.alloc (.cells #[.int .i64 x.id, .int .i64 x.spec.nodes, .int .i64 x.spec.cores, .int .i64 x.spec.gpus, .string x.spec.tag, .bool x.spec.whole, .int .i64 x.spec.long, .int .i64 x.spec.prio, .slice A3 m3 c3, .int .i64 x.state, .int .i64 x.came, .int .i64 x.frm, .int .i64 x.to] 30)), p.now.cell? ⟨wr.heap.size, 10, none⟩ = some (.int .i64 x.came) := fun _ => Later.cell BX.out.lt BX.out.c10
                have zc11 : ∀ p : Later (wr.alloc (.cells #[.int .i64 x.id, .int .i64 x.spec.nodes, .int .i64 x.spec.cores, .int .i64 x.spec.gpus, .string x.spec.tag, .bool x.spec.whole, .int .i64 x.spec.long, .int .i64 x.spec.prio, .slice A3 m3 c3, .int .i64 x.state, .int .i64 x.came, .int .i64 x.frm, .int .i64 x.to] 30)), p.now.cell? ⟨wr.heap.size, 11, none⟩ = some (.int .i64 x.frm) := fun _ => Later.cell BX.out.lt BX.out.c11
                have zc12 : ∀ p : Later (wr.alloc (.cells #[.int .i64 x.id, .int .i64 x.spec.nodes, .int .i64 x.spec.cores, .int .i64 x.spec.gpus, .string x.spec.tag, .bool x.spec.whole, .int .i64 x.spec.long, .int .i64 x.spec.prio, .slice A3 m3 c3, .int .i64 x.state, .int .i64 x.came, .int .i64 x.frm, .int .i64 x.to] 30)), p.now.cell? ⟨wr.heap.size, 12, none⟩ = some (.int .i64 x.to) := fun _ => Later.cell BX.out.lt BX.out.c12
                have zc13 : ∀ p : Later (wr.alloc (.cells #[.int .i64 x.id, .int .i64 x.spec.nodes, .int .i64 x.spec.cores, .int .i64 x.spec.gpus, .string x.spec.tag, .bool x.spec.whole, .int .i64 x.spec.long, .int .i64 x.spec.prio, .slice A3 m3 c3, .int .i64 x.state, .int .i64 x.came, .int .i64 x.frm, .int .i64 x.to] 30)), p.now.cell? ⟨b, off + (k - 1) * 13, none⟩ = some (.int .i64 y.id) := fun _ => Later.cell (Nat.lt_of_lt_of_le hb1 (by simp)) (keep_cell (wx := (wr.alloc (.cells #[.int .i64 x.id, .int .i64 x.spec.nodes, .int .i64 x.spec.cores, .int .i64 x.spec.gpus, .string x.spec.tag, .bool x.spec.whole, .int .i64 x.spec.long, .int .i64 x.spec.prio, .slice A3 m3 c3, .int .i64 x.state, .int .i64 x.came, .int .i64 x.frm, .int .i64 x.to] 30))) hb1 f0 ((Below.refl _ _).alloc (Nat.le_refl _) _))
                have zc14 : ∀ p : Later (wr.alloc (.cells #[.int .i64 x.id, .int .i64 x.spec.nodes, .int .i64 x.spec.cores, .int .i64 x.spec.gpus, .string x.spec.tag, .bool x.spec.whole, .int .i64 x.spec.long, .int .i64 x.spec.prio, .slice A3 m3 c3, .int .i64 x.state, .int .i64 x.came, .int .i64 x.frm, .int .i64 x.to] 30)), p.now.cell? ⟨b, off + (k - 1) * 13 + 1, none⟩ = some (.int .i64 y.spec.nodes) := fun _ => Later.cell (Nat.lt_of_lt_of_le hb1 (by simp)) (keep_cell (wx := (wr.alloc (.cells #[.int .i64 x.id, .int .i64 x.spec.nodes, .int .i64 x.spec.cores, .int .i64 x.spec.gpus, .string x.spec.tag, .bool x.spec.whole, .int .i64 x.spec.long, .int .i64 x.spec.prio, .slice A3 m3 c3, .int .i64 x.state, .int .i64 x.came, .int .i64 x.frm, .int .i64 x.to] 30))) hb1 f1 ((Below.refl _ _).alloc (Nat.le_refl _) _))
                have zc15 : ∀ p : Later (wr.alloc (.cells #[.int .i64 x.id, .int .i64 x.spec.nodes, .int .i64 x.spec.cores, .int .i64 x.spec.gpus, .string x.spec.tag, .bool x.spec.whole, .int .i64 x.spec.long, .int .i64 x.spec.prio, .slice A3 m3 c3, .int .i64 x.state, .int .i64 x.came, .int .i64 x.frm, .int .i64 x.to] 30)), p.now.cell? ⟨b, off + (k - 1) * 13 + 2, none⟩ = some (.int .i64 y.spec.cores) := fun _ => Later.cell (Nat.lt_of_lt_of_le hb1 (by simp)) (keep_cell (wx := (wr.alloc (.cells #[.int .i64 x.id, .int .i64 x.spec.nodes, .int .i64 x.spec.cores, .int .i64 x.spec.gpus, .string x.spec.tag, .bool x.spec.whole, .int .i64 x.spec.long, .int .i64 x.spec.prio, .slice A3 m3 c3, .int .i64 x.state, .int .i64 x.came, .int .i64 x.frm, .int .i64 x.to] 30))) hb1 f2 ((Below.refl _ _).alloc (Nat.le_refl _) _))
                have zc16 : ∀ p : Later (wr.alloc (.cells #[.int .i64 x.id, .int .i64 x.spec.nodes, .int .i64 x.spec.cores, .int .i64 x.spec.gpus, .string x.spec.tag, .bool x.spec.whole, .int .i64 x.spec.long, .int .i64 x.spec.prio, .slice A3 m3 c3, .int .i64 x.state, .int .i64 x.came, .int .i64 x.frm, .int .i64 x.to] 30)), p.now.cell? ⟨b, off + (k - 1) * 13 + 3, none⟩ = some (.int .i64 y.spec.gpus) := fun _ => Later.cell (Nat.lt_of_lt_of_le hb1 (by simp)) (keep_cell (wx := (wr.alloc (.cells #[.int .i64 x.id, .int .i64 x.spec.nodes, .int .i64 x.spec.cores, .int .i64 x.spec.gpus, .string x.spec.tag, .bool x.spec.whole, .int .i64 x.spec.long, .int .i64 x.spec.prio, .slice A3 m3 c3, .int .i64 x.state, .int .i64 x.came, .int .i64 x.frm, .int .i64 x.to] 30))) hb1 f3 ((Below.refl _ _).alloc (Nat.le_refl _) _))
                have zc17 : ∀ p : Later (wr.alloc (.cells #[.int .i64 x.id, .int .i64 x.spec.nodes, .int .i64 x.spec.cores, .int .i64 x.spec.gpus, .string x.spec.tag, .bool x.spec.whole, .int .i64 x.spec.long, .int .i64 x.spec.prio, .slice A3 m3 c3, .int .i64 x.state, .int .i64 x.came, .int .i64 x.frm, .int .i64 x.to] 30)), p.now.cell? ⟨b, off + (k - 1) * 13 + 4, none⟩ = some (.string y.spec.tag) := fun _ => Later.cell (Nat.lt_of_lt_of_le hb1 (by simp)) (keep_cell (wx := (wr.alloc (.cells #[.int .i64 x.id, .int .i64 x.spec.nodes, .int .i64 x.spec.cores, .int .i64 x.spec.gpus, .string x.spec.tag, .bool x.spec.whole, .int .i64 x.spec.long, .int .i64 x.spec.prio, .slice A3 m3 c3, .int .i64 x.state, .int .i64 x.came, .int .i64 x.frm, .int .i64 x.to] 30))) hb1 f4 ((Below.refl _ _).alloc (Nat.le_refl _) _))
                have zc18 : ∀ p : Later (wr.alloc (.cells #[.int .i64 x.id, .int .i64 x.spec.nodes, .int .i64 x.spec.cores, .int .i64 x.spec.gpus, .string x.spec.tag, .bool x.spec.whole, .int .i64 x.spec.long, .int .i64 x.spec.prio, .slice A3 m3 c3, .int .i64 x.state, .int .i64 x.came, .int .i64 x.frm, .int .i64 x.to] 30)), p.now.cell? ⟨b, off + (k - 1) * 13 + 5, none⟩ = some (.bool y.spec.whole) := fun _ => Later.cell (Nat.lt_of_lt_of_le hb1 (by simp)) (keep_cell (wx := (wr.alloc (.cells #[.int .i64 x.id, .int .i64 x.spec.nodes, .int .i64 x.spec.cores, .int .i64 x.spec.gpus, .string x.spec.tag, .bool x.spec.whole, .int .i64 x.spec.long, .int .i64 x.spec.prio, .slice A3 m3 c3, .int .i64 x.state, .int .i64 x.came, .int .i64 x.frm, .int .i64 x.to] 30))) hb1 f5 ((Below.refl _ _).alloc (Nat.le_refl _) _))
                have zc19 : ∀ p : Later (wr.alloc (.cells #[.int .i64 x.id, .int .i64 x.spec.nodes, .int .i64 x.spec.cores, .int .i64 x.spec.gpus, .string x.spec.tag, .bool x.spec.whole, .int .i64 x.spec.long, .int .i64 x.spec.prio, .slice A3 m3 c3, .int .i64 x.state, .int .i64 x.came, .int .i64 x.frm, .int .i64 x.to] 30)), p.now.cell? ⟨b, off + (k - 1) * 13 + 6, none⟩ = some (.int .i64 y.spec.long) := fun _ => Later.cell (Nat.lt_of_lt_of_le hb1 (by simp)) (keep_cell (wx := (wr.alloc (.cells #[.int .i64 x.id, .int .i64 x.spec.nodes, .int .i64 x.spec.cores, .int .i64 x.spec.gpus, .string x.spec.tag, .bool x.spec.whole, .int .i64 x.spec.long, .int .i64 x.spec.prio, .slice A3 m3 c3, .int .i64 x.state, .int .i64 x.came, .int .i64 x.frm, .int .i64 x.to] 30))) hb1 f6 ((Below.refl _ _).alloc (Nat.le_refl _) _))
                have zc20 : ∀ p : Later (wr.alloc (.cells #[.int .i64 x.id, .int .i64 x.spec.nodes, .int .i64 x.spec.cores, .int .i64 x.spec.gpus, .string x.spec.tag, .bool x.spec.whole, .int .i64 x.spec.long, .int .i64 x.spec.prio, .slice A3 m3 c3, .int .i64 x.state, .int .i64 x.came, .int .i64 x.frm, .int .i64 x.to] 30)), p.now.cell? ⟨b, off + (k - 1) * 13 + 7, none⟩ = some (.int .i64 y.spec.prio) := fun _ => Later.cell (Nat.lt_of_lt_of_le hb1 (by simp)) (keep_cell (wx := (wr.alloc (.cells #[.int .i64 x.id, .int .i64 x.spec.nodes, .int .i64 x.spec.cores, .int .i64 x.spec.gpus, .string x.spec.tag, .bool x.spec.whole, .int .i64 x.spec.long, .int .i64 x.spec.prio, .slice A3 m3 c3, .int .i64 x.state, .int .i64 x.came, .int .i64 x.frm, .int .i64 x.to] 30))) hb1 f7 ((Below.refl _ _).alloc (Nat.le_refl _) _))
                have zc21 : ∀ p : Later (wr.alloc (.cells #[.int .i64 x.id, .int .i64 x.spec.nodes, .int .i64 x.spec.cores, .int .i64 x.spec.gpus, .string x.spec.tag, .bool x.spec.whole, .int .i64 x.spec.long, .int .i64 x.spec.prio, .slice A3 m3 c3, .int .i64 x.state, .int .i64 x.came, .int .i64 x.frm, .int .i64 x.to] 30)), p.now.cell? ⟨b, off + (k - 1) * 13 + 8, none⟩ = some (.slice A4 m4 c4) := fun _ => Later.cell (Nat.lt_of_lt_of_le hb1 (by simp)) (keep_cell (wx := (wr.alloc (.cells #[.int .i64 x.id, .int .i64 x.spec.nodes, .int .i64 x.spec.cores, .int .i64 x.spec.gpus, .string x.spec.tag, .bool x.spec.whole, .int .i64 x.spec.long, .int .i64 x.spec.prio, .slice A3 m3 c3, .int .i64 x.state, .int .i64 x.came, .int .i64 x.frm, .int .i64 x.to] 30))) hb1 f8 ((Below.refl _ _).alloc (Nat.le_refl _) _))
                have zc22 : ∀ p : Later (wr.alloc (.cells #[.int .i64 x.id, .int .i64 x.spec.nodes, .int .i64 x.spec.cores, .int .i64 x.spec.gpus, .string x.spec.tag, .bool x.spec.whole, .int .i64 x.spec.long, .int .i64 x.spec.prio, .slice A3 m3 c3, .int .i64 x.state, .int .i64 x.came, .int .i64 x.frm, .int .i64 x.to] 30)), p.now.cell? ⟨b, off + (k - 1) * 13 + 9, none⟩ = some (.int .i64 y.state) := fun _ => Later.cell (Nat.lt_of_lt_of_le hb1 (by simp)) (keep_cell (wx := (wr.alloc (.cells #[.int .i64 x.id, .int .i64 x.spec.nodes, .int .i64 x.spec.cores, .int .i64 x.spec.gpus, .string x.spec.tag, .bool x.spec.whole, .int .i64 x.spec.long, .int .i64 x.spec.prio, .slice A3 m3 c3, .int .i64 x.state, .int .i64 x.came, .int .i64 x.frm, .int .i64 x.to] 30))) hb1 f9 ((Below.refl _ _).alloc (Nat.le_refl _) _))
                have zc23 : ∀ p : Later (wr.alloc (.cells #[.int .i64 x.id, .int .i64 x.spec.nodes, .int .i64 x.spec.cores, .int .i64 x.spec.gpus, .string x.spec.tag, .bool x.spec.whole, .int .i64 x.spec.long, .int .i64 x.spec.prio, .slice A3 m3 c3, .int .i64 x.state, .int .i64 x.came, .int .i64 x.frm, .int .i64 x.to] 30)), p.now.cell? ⟨b, off + (k - 1) * 13 + 10, none⟩ = some (.int .i64 y.came) := fun _ => Later.cell (Nat.lt_of_lt_of_le hb1 (by simp)) (keep_cell (wx := (wr.alloc (.cells #[.int .i64 x.id, .int .i64 x.spec.nodes, .int .i64 x.spec.cores, .int .i64 x.spec.gpus, .string x.spec.tag, .bool x.spec.whole, .int .i64 x.spec.long, .int .i64 x.spec.prio, .slice A3 m3 c3, .int .i64 x.state, .int .i64 x.came, .int .i64 x.frm, .int .i64 x.to] 30))) hb1 f10 ((Below.refl _ _).alloc (Nat.le_refl _) _))
                have zc24 : ∀ p : Later (wr.alloc (.cells #[.int .i64 x.id, .int .i64 x.spec.nodes, .int .i64 x.spec.cores, .int .i64 x.spec.gpus, .string x.spec.tag, .bool x.spec.whole, .int .i64 x.spec.long, .int .i64 x.spec.prio, .slice A3 m3 c3, .int .i64 x.state, .int .i64 x.came, .int .i64 x.frm, .int .i64 x.to] 30)), p.now.cell? ⟨b, off + (k - 1) * 13 + 11, none⟩ = some (.int .i64 y.frm) := fun _ => Later.cell (Nat.lt_of_lt_of_le hb1 (by simp)) (keep_cell (wx := (wr.alloc (.cells #[.int .i64 x.id, .int .i64 x.spec.nodes, .int .i64 x.spec.cores, .int .i64 x.spec.gpus, .string x.spec.tag, .bool x.spec.whole, .int .i64 x.spec.long, .int .i64 x.spec.prio, .slice A3 m3 c3, .int .i64 x.state, .int .i64 x.came, .int .i64 x.frm, .int .i64 x.to] 30))) hb1 f11 ((Below.refl _ _).alloc (Nat.le_refl _) _))
                have zc25 : ∀ p : Later (wr.alloc (.cells #[.int .i64 x.id, .int .i64 x.spec.nodes, .int .i64 x.spec.cores, .int .i64 x.spec.gpus, .string x.spec.tag, .bool x.spec.whole, .int .i64 x.spec.long, .int .i64 x.spec.prio, .slice A3 m3 c3, .int .i64 x.state, .int .i64 x.came, .int .i64 x.frm, .int .i64 x.to] 30)), p.now.cell? ⟨b, off + (k - 1) * 13 + 12, none⟩ = some (.int .i64 y.to) := fun _ => Later.cell (Nat.lt_of_lt_of_le hb1 (by simp)) (keep_cell (wx := (wr.alloc (.cells #[.int .i64 x.id, .int .i64 x.spec.nodes, .int .i64 x.spec.cores, .int .i64 x.spec.gpus, .string x.spec.tag, .bool x.spec.whole, .int .i64 x.spec.long, .int .i64 x.spec.prio, .slice A3 m3 c3, .int .i64 x.state, .int .i64 x.came, .int .i64 x.frm, .int .i64 x.to] 30))) hb1 f12 ((Below.refl _ _).alloc (Nat.le_refl _) _))
                refine wp_region_later (by kernel_rfl) (by kernel_rfl) ?_
                repeat (first | go_big_quiet_skip | (go_big_quiet_want; go_big_quiet_op; first | go_big_quiet_on | (apply Exists.intro; refine ⟨fun pz => ?_, ?_⟩; (first | (go_at_call 32; exact Calls.later_of (jobRight_b (JA.out.next pz.bel) RV.out)) | (go_at_call 33; exact Calls.later_of (followsQ_b FV.out)) | (go_at_call 34; exact Calls.later_of (thereQ_b (c := c) ((QAw.out.next pz.bel).reads.cut HKN.out) HK1.out HRT.out (JA.out.next pz.bel).mask TV.out)) | fail); go_big_quiet_on)))
                refine wpQuiet_nil ?_
                intro _ hw'
                obtain ⟨pz, rfl⟩ := hw'
                obtain ⟨w1, hb⟩ := pz
                try dsimp only
                clear zc0 zc1 zc2 zc3 zc4 zc5 zc6 zc7 zc8 zc9 zc10 zc11 zc12 zc13 zc14 zc15 zc16 zc17 zc18 zc19 zc20 zc21 zc22 zc23 zc24 zc25
                have HBq := Lib.hid (HB.out.trans (hb.mono HB.out.size))
                clear HB
                have HB := HBq
                clear HBq
                have QAwq := Lib.hid (QAw.out.next hb)
                clear QAw
                have QAw := QAwq
                clear QAwq
                have JAq := Lib.hid (JA.out.next hb)
                clear JA
                have JA := JAq
                clear JAq
                have BXq := Lib.hid (BX.out.next hb)
                clear BX
                have BX := BXq
                clear BXq
                clear hb
                go_wp2
                go_ret
                exact ⟨ret_bl HV.out, HB.out⟩
              | true =>
                have TV := Lib.hid ht
                have HN : Hid (∀ i, i < k + 1 → StepQA l i) := Lib.hid (fun i hi => by
                  by_cases e : i = k
                  · subst e
                    exact ⟨by rw [HX.out]; exact of_decide_eq_true RV.out, HRI.out, by rw [HX.out]; exact of_decide_eq_true TV.out⟩
                  · exact HNA.out i (by omega))
                clear ht hv
                go_wp2_with fail
                have hb := Below.alloc (Below.refl wr.heap.size wr) (Nat.le_refl _) (.cells #[.int .i64 x.id, .int .i64 x.spec.nodes, .int .i64 x.spec.cores, .int .i64 x.spec.gpus, .string x.spec.tag, .bool x.spec.whole, .int .i64 x.spec.long, .int .i64 x.spec.prio, .slice A3 m3 c3, .int .i64 x.state, .int .i64 x.came, .int .i64 x.frm, .int .i64 x.to] 30)
                have BXq := Lib.hid (boxJ_new wr x A3 m3 c3)
                have HBq := Lib.hid (HB.out.trans (hb.mono HB.out.size))
                clear HB
                have HB := HBq
                clear HBq
                have QAwq := Lib.hid (QAw.out.next hb)
                clear QAw
                have QAw := QAwq
                clear QAwq
                have JAq := Lib.hid (JA.out.next hb)
                clear JA
                have JA := JAq
                clear JAq
                clear hb
                have BX := BXq
                clear BXq
                have q0' := BX.out.lt
                clear q0'
                go_wp2
                have zc0 : ∀ p : Later (wr.alloc (.cells #[.int .i64 x.id, .int .i64 x.spec.nodes, .int .i64 x.spec.cores, .int .i64 x.spec.gpus, .string x.spec.tag, .bool x.spec.whole, .int .i64 x.spec.long, .int .i64 x.spec.prio, .slice A3 m3 c3, .int .i64 x.state, .int .i64 x.came, .int .i64 x.frm, .int .i64 x.to] 30)), p.now.cell? ⟨wr.heap.size, 0, none⟩ = some (.int .i64 x.id) := fun _ => Later.cell BX.out.lt BX.out.c0
                have zc1 : ∀ p : Later (wr.alloc (.cells #[.int .i64 x.id, .int .i64 x.spec.nodes, .int .i64 x.spec.cores, .int .i64 x.spec.gpus, .string x.spec.tag, .bool x.spec.whole, .int .i64 x.spec.long, .int .i64 x.spec.prio, .slice A3 m3 c3, .int .i64 x.state, .int .i64 x.came, .int .i64 x.frm, .int .i64 x.to] 30)), p.now.cell? ⟨wr.heap.size, 1, none⟩ = some (.int .i64 x.spec.nodes) := fun _ => Later.cell BX.out.lt BX.out.c1
                have zc2 : ∀ p : Later (wr.alloc (.cells #[.int .i64 x.id, .int .i64 x.spec.nodes, .int .i64 x.spec.cores, .int .i64 x.spec.gpus, .string x.spec.tag, .bool x.spec.whole, .int .i64 x.spec.long, .int .i64 x.spec.prio, .slice A3 m3 c3, .int .i64 x.state, .int .i64 x.came, .int .i64 x.frm, .int .i64 x.to] 30)), p.now.cell? ⟨wr.heap.size, 2, none⟩ = some (.int .i64 x.spec.cores) := fun _ => Later.cell BX.out.lt BX.out.c2
                have zc3 : ∀ p : Later (wr.alloc (.cells #[.int .i64 x.id, .int .i64 x.spec.nodes, .int .i64 x.spec.cores, .int .i64 x.spec.gpus, .string x.spec.tag, .bool x.spec.whole, .int .i64 x.spec.long, .int .i64 x.spec.prio, .slice A3 m3 c3, .int .i64 x.state, .int .i64 x.came, .int .i64 x.frm, .int .i64 x.to] 30)), p.now.cell? ⟨wr.heap.size, 3, none⟩ = some (.int .i64 x.spec.gpus) := fun _ => Later.cell BX.out.lt BX.out.c3
                have zc4 : ∀ p : Later (wr.alloc (.cells #[.int .i64 x.id, .int .i64 x.spec.nodes, .int .i64 x.spec.cores, .int .i64 x.spec.gpus, .string x.spec.tag, .bool x.spec.whole, .int .i64 x.spec.long, .int .i64 x.spec.prio, .slice A3 m3 c3, .int .i64 x.state, .int .i64 x.came, .int .i64 x.frm, .int .i64 x.to] 30)), p.now.cell? ⟨wr.heap.size, 4, none⟩ = some (.string x.spec.tag) := fun _ => Later.cell BX.out.lt BX.out.c4
                have zc5 : ∀ p : Later (wr.alloc (.cells #[.int .i64 x.id, .int .i64 x.spec.nodes, .int .i64 x.spec.cores, .int .i64 x.spec.gpus, .string x.spec.tag, .bool x.spec.whole, .int .i64 x.spec.long, .int .i64 x.spec.prio, .slice A3 m3 c3, .int .i64 x.state, .int .i64 x.came, .int .i64 x.frm, .int .i64 x.to] 30)), p.now.cell? ⟨wr.heap.size, 5, none⟩ = some (.bool x.spec.whole) := fun _ => Later.cell BX.out.lt BX.out.c5
                have zc6 : ∀ p : Later (wr.alloc (.cells #[.int .i64 x.id, .int .i64 x.spec.nodes, .int .i64 x.spec.cores, .int .i64 x.spec.gpus, .string x.spec.tag, .bool x.spec.whole, .int .i64 x.spec.long, .int .i64 x.spec.prio, .slice A3 m3 c3, .int .i64 x.state, .int .i64 x.came, .int .i64 x.frm, .int .i64 x.to] 30)), p.now.cell? ⟨wr.heap.size, 6, none⟩ = some (.int .i64 x.spec.long) := fun _ => Later.cell BX.out.lt BX.out.c6
                have zc7 : ∀ p : Later (wr.alloc (.cells #[.int .i64 x.id, .int .i64 x.spec.nodes, .int .i64 x.spec.cores, .int .i64 x.spec.gpus, .string x.spec.tag, .bool x.spec.whole, .int .i64 x.spec.long, .int .i64 x.spec.prio, .slice A3 m3 c3, .int .i64 x.state, .int .i64 x.came, .int .i64 x.frm, .int .i64 x.to] 30)), p.now.cell? ⟨wr.heap.size, 7, none⟩ = some (.int .i64 x.spec.prio) := fun _ => Later.cell BX.out.lt BX.out.c7
                have zc8 : ∀ p : Later (wr.alloc (.cells #[.int .i64 x.id, .int .i64 x.spec.nodes, .int .i64 x.spec.cores, .int .i64 x.spec.gpus, .string x.spec.tag, .bool x.spec.whole, .int .i64 x.spec.long, .int .i64 x.spec.prio, .slice A3 m3 c3, .int .i64 x.state, .int .i64 x.came, .int .i64 x.frm, .int .i64 x.to] 30)), p.now.cell? ⟨wr.heap.size, 8, none⟩ = some (.slice A3 m3 c3) := fun _ => Later.cell BX.out.lt BX.out.c8
                have zc9 : ∀ p : Later (wr.alloc (.cells #[.int .i64 x.id, .int .i64 x.spec.nodes, .int .i64 x.spec.cores, .int .i64 x.spec.gpus, .string x.spec.tag, .bool x.spec.whole, .int .i64 x.spec.long, .int .i64 x.spec.prio, .slice A3 m3 c3, .int .i64 x.state, .int .i64 x.came, .int .i64 x.frm, .int .i64 x.to] 30)), p.now.cell? ⟨wr.heap.size, 9, none⟩ = some (.int .i64 x.state) := fun _ => Later.cell BX.out.lt BX.out.c9
                have zc10 : ∀ p : Later (wr.alloc (.cells #[.int .i64 x.id, .int .i64 x.spec.nodes, .int .i64 x.spec.cores, .int .i64 x.spec.gpus, .string x.spec.tag, .bool x.spec.whole, .int .i64 x.spec.long, .int .i64 x.spec.prio, .slice A3 m3 c3, .int .i64 x.state, .int .i64 x.came, .int .i64 x.frm, .int .i64 x.to] 30)), p.now.cell? ⟨wr.heap.size, 10, none⟩ = some (.int .i64 x.came) := fun _ => Later.cell BX.out.lt BX.out.c10
                have zc11 : ∀ p : Later (wr.alloc (.cells #[.int .i64 x.id, .int .i64 x.spec.nodes, .int .i64 x.spec.cores, .int .i64 x.spec.gpus, .string x.spec.tag, .bool x.spec.whole, .int .i64 x.spec.long, .int .i64 x.spec.prio, .slice A3 m3 c3, .int .i64 x.state, .int .i64 x.came, .int .i64 x.frm, .int .i64 x.to] 30)), p.now.cell? ⟨wr.heap.size, 11, none⟩ = some (.int .i64 x.frm) := fun _ => Later.cell BX.out.lt BX.out.c11
                have zc12 : ∀ p : Later (wr.alloc (.cells #[.int .i64 x.id, .int .i64 x.spec.nodes, .int .i64 x.spec.cores, .int .i64 x.spec.gpus, .string x.spec.tag, .bool x.spec.whole, .int .i64 x.spec.long, .int .i64 x.spec.prio, .slice A3 m3 c3, .int .i64 x.state, .int .i64 x.came, .int .i64 x.frm, .int .i64 x.to] 30)), p.now.cell? ⟨wr.heap.size, 12, none⟩ = some (.int .i64 x.to) := fun _ => Later.cell BX.out.lt BX.out.c12
                have zc13 : ∀ p : Later (wr.alloc (.cells #[.int .i64 x.id, .int .i64 x.spec.nodes, .int .i64 x.spec.cores, .int .i64 x.spec.gpus, .string x.spec.tag, .bool x.spec.whole, .int .i64 x.spec.long, .int .i64 x.spec.prio, .slice A3 m3 c3, .int .i64 x.state, .int .i64 x.came, .int .i64 x.frm, .int .i64 x.to] 30)), p.now.cell? ⟨b, off + (k - 1) * 13, none⟩ = some (.int .i64 y.id) := fun _ => Later.cell (Nat.lt_of_lt_of_le hb1 (by simp)) (keep_cell (wx := (wr.alloc (.cells #[.int .i64 x.id, .int .i64 x.spec.nodes, .int .i64 x.spec.cores, .int .i64 x.spec.gpus, .string x.spec.tag, .bool x.spec.whole, .int .i64 x.spec.long, .int .i64 x.spec.prio, .slice A3 m3 c3, .int .i64 x.state, .int .i64 x.came, .int .i64 x.frm, .int .i64 x.to] 30))) hb1 f0 ((Below.refl _ _).alloc (Nat.le_refl _) _))
                have zc14 : ∀ p : Later (wr.alloc (.cells #[.int .i64 x.id, .int .i64 x.spec.nodes, .int .i64 x.spec.cores, .int .i64 x.spec.gpus, .string x.spec.tag, .bool x.spec.whole, .int .i64 x.spec.long, .int .i64 x.spec.prio, .slice A3 m3 c3, .int .i64 x.state, .int .i64 x.came, .int .i64 x.frm, .int .i64 x.to] 30)), p.now.cell? ⟨b, off + (k - 1) * 13 + 1, none⟩ = some (.int .i64 y.spec.nodes) := fun _ => Later.cell (Nat.lt_of_lt_of_le hb1 (by simp)) (keep_cell (wx := (wr.alloc (.cells #[.int .i64 x.id, .int .i64 x.spec.nodes, .int .i64 x.spec.cores, .int .i64 x.spec.gpus, .string x.spec.tag, .bool x.spec.whole, .int .i64 x.spec.long, .int .i64 x.spec.prio, .slice A3 m3 c3, .int .i64 x.state, .int .i64 x.came, .int .i64 x.frm, .int .i64 x.to] 30))) hb1 f1 ((Below.refl _ _).alloc (Nat.le_refl _) _))
                have zc15 : ∀ p : Later (wr.alloc (.cells #[.int .i64 x.id, .int .i64 x.spec.nodes, .int .i64 x.spec.cores, .int .i64 x.spec.gpus, .string x.spec.tag, .bool x.spec.whole, .int .i64 x.spec.long, .int .i64 x.spec.prio, .slice A3 m3 c3, .int .i64 x.state, .int .i64 x.came, .int .i64 x.frm, .int .i64 x.to] 30)), p.now.cell? ⟨b, off + (k - 1) * 13 + 2, none⟩ = some (.int .i64 y.spec.cores) := fun _ => Later.cell (Nat.lt_of_lt_of_le hb1 (by simp)) (keep_cell (wx := (wr.alloc (.cells #[.int .i64 x.id, .int .i64 x.spec.nodes, .int .i64 x.spec.cores, .int .i64 x.spec.gpus, .string x.spec.tag, .bool x.spec.whole, .int .i64 x.spec.long, .int .i64 x.spec.prio, .slice A3 m3 c3, .int .i64 x.state, .int .i64 x.came, .int .i64 x.frm, .int .i64 x.to] 30))) hb1 f2 ((Below.refl _ _).alloc (Nat.le_refl _) _))
                have zc16 : ∀ p : Later (wr.alloc (.cells #[.int .i64 x.id, .int .i64 x.spec.nodes, .int .i64 x.spec.cores, .int .i64 x.spec.gpus, .string x.spec.tag, .bool x.spec.whole, .int .i64 x.spec.long, .int .i64 x.spec.prio, .slice A3 m3 c3, .int .i64 x.state, .int .i64 x.came, .int .i64 x.frm, .int .i64 x.to] 30)), p.now.cell? ⟨b, off + (k - 1) * 13 + 3, none⟩ = some (.int .i64 y.spec.gpus) := fun _ => Later.cell (Nat.lt_of_lt_of_le hb1 (by simp)) (keep_cell (wx := (wr.alloc (.cells #[.int .i64 x.id, .int .i64 x.spec.nodes, .int .i64 x.spec.cores, .int .i64 x.spec.gpus, .string x.spec.tag, .bool x.spec.whole, .int .i64 x.spec.long, .int .i64 x.spec.prio, .slice A3 m3 c3, .int .i64 x.state, .int .i64 x.came, .int .i64 x.frm, .int .i64 x.to] 30))) hb1 f3 ((Below.refl _ _).alloc (Nat.le_refl _) _))
                have zc17 : ∀ p : Later (wr.alloc (.cells #[.int .i64 x.id, .int .i64 x.spec.nodes, .int .i64 x.spec.cores, .int .i64 x.spec.gpus, .string x.spec.tag, .bool x.spec.whole, .int .i64 x.spec.long, .int .i64 x.spec.prio, .slice A3 m3 c3, .int .i64 x.state, .int .i64 x.came, .int .i64 x.frm, .int .i64 x.to] 30)), p.now.cell? ⟨b, off + (k - 1) * 13 + 4, none⟩ = some (.string y.spec.tag) := fun _ => Later.cell (Nat.lt_of_lt_of_le hb1 (by simp)) (keep_cell (wx := (wr.alloc (.cells #[.int .i64 x.id, .int .i64 x.spec.nodes, .int .i64 x.spec.cores, .int .i64 x.spec.gpus, .string x.spec.tag, .bool x.spec.whole, .int .i64 x.spec.long, .int .i64 x.spec.prio, .slice A3 m3 c3, .int .i64 x.state, .int .i64 x.came, .int .i64 x.frm, .int .i64 x.to] 30))) hb1 f4 ((Below.refl _ _).alloc (Nat.le_refl _) _))
                have zc18 : ∀ p : Later (wr.alloc (.cells #[.int .i64 x.id, .int .i64 x.spec.nodes, .int .i64 x.spec.cores, .int .i64 x.spec.gpus, .string x.spec.tag, .bool x.spec.whole, .int .i64 x.spec.long, .int .i64 x.spec.prio, .slice A3 m3 c3, .int .i64 x.state, .int .i64 x.came, .int .i64 x.frm, .int .i64 x.to] 30)), p.now.cell? ⟨b, off + (k - 1) * 13 + 5, none⟩ = some (.bool y.spec.whole) := fun _ => Later.cell (Nat.lt_of_lt_of_le hb1 (by simp)) (keep_cell (wx := (wr.alloc (.cells #[.int .i64 x.id, .int .i64 x.spec.nodes, .int .i64 x.spec.cores, .int .i64 x.spec.gpus, .string x.spec.tag, .bool x.spec.whole, .int .i64 x.spec.long, .int .i64 x.spec.prio, .slice A3 m3 c3, .int .i64 x.state, .int .i64 x.came, .int .i64 x.frm, .int .i64 x.to] 30))) hb1 f5 ((Below.refl _ _).alloc (Nat.le_refl _) _))
                have zc19 : ∀ p : Later (wr.alloc (.cells #[.int .i64 x.id, .int .i64 x.spec.nodes, .int .i64 x.spec.cores, .int .i64 x.spec.gpus, .string x.spec.tag, .bool x.spec.whole, .int .i64 x.spec.long, .int .i64 x.spec.prio, .slice A3 m3 c3, .int .i64 x.state, .int .i64 x.came, .int .i64 x.frm, .int .i64 x.to] 30)), p.now.cell? ⟨b, off + (k - 1) * 13 + 6, none⟩ = some (.int .i64 y.spec.long) := fun _ => Later.cell (Nat.lt_of_lt_of_le hb1 (by simp)) (keep_cell (wx := (wr.alloc (.cells #[.int .i64 x.id, .int .i64 x.spec.nodes, .int .i64 x.spec.cores, .int .i64 x.spec.gpus, .string x.spec.tag, .bool x.spec.whole, .int .i64 x.spec.long, .int .i64 x.spec.prio, .slice A3 m3 c3, .int .i64 x.state, .int .i64 x.came, .int .i64 x.frm, .int .i64 x.to] 30))) hb1 f6 ((Below.refl _ _).alloc (Nat.le_refl _) _))
                have zc20 : ∀ p : Later (wr.alloc (.cells #[.int .i64 x.id, .int .i64 x.spec.nodes, .int .i64 x.spec.cores, .int .i64 x.spec.gpus, .string x.spec.tag, .bool x.spec.whole, .int .i64 x.spec.long, .int .i64 x.spec.prio, .slice A3 m3 c3, .int .i64 x.state, .int .i64 x.came, .int .i64 x.frm, .int .i64 x.to] 30)), p.now.cell? ⟨b, off + (k - 1) * 13 + 7, none⟩ = some (.int .i64 y.spec.prio) := fun _ => Later.cell (Nat.lt_of_lt_of_le hb1 (by simp)) (keep_cell (wx := (wr.alloc (.cells #[.int .i64 x.id, .int .i64 x.spec.nodes, .int .i64 x.spec.cores, .int .i64 x.spec.gpus, .string x.spec.tag, .bool x.spec.whole, .int .i64 x.spec.long, .int .i64 x.spec.prio, .slice A3 m3 c3, .int .i64 x.state, .int .i64 x.came, .int .i64 x.frm, .int .i64 x.to] 30))) hb1 f7 ((Below.refl _ _).alloc (Nat.le_refl _) _))
                have zc21 : ∀ p : Later (wr.alloc (.cells #[.int .i64 x.id, .int .i64 x.spec.nodes, .int .i64 x.spec.cores, .int .i64 x.spec.gpus, .string x.spec.tag, .bool x.spec.whole, .int .i64 x.spec.long, .int .i64 x.spec.prio, .slice A3 m3 c3, .int .i64 x.state, .int .i64 x.came, .int .i64 x.frm, .int .i64 x.to] 30)), p.now.cell? ⟨b, off + (k - 1) * 13 + 8, none⟩ = some (.slice A4 m4 c4) := fun _ => Later.cell (Nat.lt_of_lt_of_le hb1 (by simp)) (keep_cell (wx := (wr.alloc (.cells #[.int .i64 x.id, .int .i64 x.spec.nodes, .int .i64 x.spec.cores, .int .i64 x.spec.gpus, .string x.spec.tag, .bool x.spec.whole, .int .i64 x.spec.long, .int .i64 x.spec.prio, .slice A3 m3 c3, .int .i64 x.state, .int .i64 x.came, .int .i64 x.frm, .int .i64 x.to] 30))) hb1 f8 ((Below.refl _ _).alloc (Nat.le_refl _) _))
                have zc22 : ∀ p : Later (wr.alloc (.cells #[.int .i64 x.id, .int .i64 x.spec.nodes, .int .i64 x.spec.cores, .int .i64 x.spec.gpus, .string x.spec.tag, .bool x.spec.whole, .int .i64 x.spec.long, .int .i64 x.spec.prio, .slice A3 m3 c3, .int .i64 x.state, .int .i64 x.came, .int .i64 x.frm, .int .i64 x.to] 30)), p.now.cell? ⟨b, off + (k - 1) * 13 + 9, none⟩ = some (.int .i64 y.state) := fun _ => Later.cell (Nat.lt_of_lt_of_le hb1 (by simp)) (keep_cell (wx := (wr.alloc (.cells #[.int .i64 x.id, .int .i64 x.spec.nodes, .int .i64 x.spec.cores, .int .i64 x.spec.gpus, .string x.spec.tag, .bool x.spec.whole, .int .i64 x.spec.long, .int .i64 x.spec.prio, .slice A3 m3 c3, .int .i64 x.state, .int .i64 x.came, .int .i64 x.frm, .int .i64 x.to] 30))) hb1 f9 ((Below.refl _ _).alloc (Nat.le_refl _) _))
                have zc23 : ∀ p : Later (wr.alloc (.cells #[.int .i64 x.id, .int .i64 x.spec.nodes, .int .i64 x.spec.cores, .int .i64 x.spec.gpus, .string x.spec.tag, .bool x.spec.whole, .int .i64 x.spec.long, .int .i64 x.spec.prio, .slice A3 m3 c3, .int .i64 x.state, .int .i64 x.came, .int .i64 x.frm, .int .i64 x.to] 30)), p.now.cell? ⟨b, off + (k - 1) * 13 + 10, none⟩ = some (.int .i64 y.came) := fun _ => Later.cell (Nat.lt_of_lt_of_le hb1 (by simp)) (keep_cell (wx := (wr.alloc (.cells #[.int .i64 x.id, .int .i64 x.spec.nodes, .int .i64 x.spec.cores, .int .i64 x.spec.gpus, .string x.spec.tag, .bool x.spec.whole, .int .i64 x.spec.long, .int .i64 x.spec.prio, .slice A3 m3 c3, .int .i64 x.state, .int .i64 x.came, .int .i64 x.frm, .int .i64 x.to] 30))) hb1 f10 ((Below.refl _ _).alloc (Nat.le_refl _) _))
                have zc24 : ∀ p : Later (wr.alloc (.cells #[.int .i64 x.id, .int .i64 x.spec.nodes, .int .i64 x.spec.cores, .int .i64 x.spec.gpus, .string x.spec.tag, .bool x.spec.whole, .int .i64 x.spec.long, .int .i64 x.spec.prio, .slice A3 m3 c3, .int .i64 x.state, .int .i64 x.came, .int .i64 x.frm, .int .i64 x.to] 30)), p.now.cell? ⟨b, off + (k - 1) * 13 + 11, none⟩ = some (.int .i64 y.frm) := fun _ => Later.cell (Nat.lt_of_lt_of_le hb1 (by simp)) (keep_cell (wx := (wr.alloc (.cells #[.int .i64 x.id, .int .i64 x.spec.nodes, .int .i64 x.spec.cores, .int .i64 x.spec.gpus, .string x.spec.tag, .bool x.spec.whole, .int .i64 x.spec.long, .int .i64 x.spec.prio, .slice A3 m3 c3, .int .i64 x.state, .int .i64 x.came, .int .i64 x.frm, .int .i64 x.to] 30))) hb1 f11 ((Below.refl _ _).alloc (Nat.le_refl _) _))
                have zc25 : ∀ p : Later (wr.alloc (.cells #[.int .i64 x.id, .int .i64 x.spec.nodes, .int .i64 x.spec.cores, .int .i64 x.spec.gpus, .string x.spec.tag, .bool x.spec.whole, .int .i64 x.spec.long, .int .i64 x.spec.prio, .slice A3 m3 c3, .int .i64 x.state, .int .i64 x.came, .int .i64 x.frm, .int .i64 x.to] 30)), p.now.cell? ⟨b, off + (k - 1) * 13 + 12, none⟩ = some (.int .i64 y.to) := fun _ => Later.cell (Nat.lt_of_lt_of_le hb1 (by simp)) (keep_cell (wx := (wr.alloc (.cells #[.int .i64 x.id, .int .i64 x.spec.nodes, .int .i64 x.spec.cores, .int .i64 x.spec.gpus, .string x.spec.tag, .bool x.spec.whole, .int .i64 x.spec.long, .int .i64 x.spec.prio, .slice A3 m3 c3, .int .i64 x.state, .int .i64 x.came, .int .i64 x.frm, .int .i64 x.to] 30))) hb1 f12 ((Below.refl _ _).alloc (Nat.le_refl _) _))
                refine wp_region_later (by kernel_rfl) (by kernel_rfl) ?_
                repeat (first | go_big_quiet_skip | (go_big_quiet_want; go_big_quiet_op; first | go_big_quiet_on | (apply Exists.intro; refine ⟨fun pz => ?_, ?_⟩; (first | (go_at_call 32; exact Calls.later_of (jobRight_b (JA.out.next pz.bel) RV.out)) | (go_at_call 33; exact Calls.later_of (followsQ_b FV.out)) | (go_at_call 34; exact Calls.later_of (thereQ_b (c := c) ((QAw.out.next pz.bel).reads.cut HKN.out) HK1.out HRT.out (JA.out.next pz.bel).mask TV.out)) | fail); go_big_quiet_on)))
                refine wpQuiet_nil ?_
                intro _ hw'
                obtain ⟨pz, rfl⟩ := hw'
                obtain ⟨w1, hb⟩ := pz
                try dsimp only
                clear zc0 zc1 zc2 zc3 zc4 zc5 zc6 zc7 zc8 zc9 zc10 zc11 zc12 zc13 zc14 zc15 zc16 zc17 zc18 zc19 zc20 zc21 zc22 zc23 zc24 zc25
                have HBq := Lib.hid (HB.out.trans (hb.mono HB.out.size))
                clear HB
                have HB := HBq
                clear HBq
                have QAwq := Lib.hid (QAw.out.next hb)
                clear QAw
                have QAw := QAwq
                clear QAwq
                have JAq := Lib.hid (JA.out.next hb)
                clear JA
                have JA := JAq
                clear JAq
                have BXq := Lib.hid (BX.out.next hb)
                clear BX
                have BX := BXq
                clear BXq
                clear hb
                clear e0 e1 e2 e3 e4 e5 e6 e7 e8 e9 e10 e11 e12 f0 f1 f2 f3 f4 f5 f6 f7 f8 f9 f10 f11 f12
                go_wp2
                go_roundw
                case rel => exact ⟨k + 1, by omega, by go_num, HN.out, HB.out⟩
                case measure => simp [intOf]; omega
      · have HT : Hid (rightQ l = true) := Lib.hid (decide_eq_true (rightQ_steps.2 ⟨by rw [HN0.out]; omega, fun i hi => HNA.out i (by rw [HN0.out] at hi; omega)⟩))
        clear HNA
        go_wp2
        go_ret
        exact ⟨ret_bl HT.out, HB.out⟩
theorem rightQP_b {A : Option Addr} {n c : Nat} {l : Qu} {w : World} {v : Bool} (hl : QAsk w A n c l) (e : rightQ l = v) :
    Calls Try.prog 16 #[.slice A n c] w fun e w' => e = .returned (.bool v) ∧ Below w.heap.size w w' := by
  subst e; exact rightQP_any A n c l w hl

end Go.Proofs.Ytimgdlddfnglaaa
