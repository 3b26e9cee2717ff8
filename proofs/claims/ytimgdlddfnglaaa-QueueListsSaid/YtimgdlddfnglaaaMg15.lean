/- The reference's At, Short and Same of layer 12. Written by gen/gen_queue.py. -/
import Derived.LoopTactic
import Derived.Test.YtimgdlddfnglaaaMg06
import Derived.Test.YtimgdlddfnglaaaMg14
namespace Go.Proofs.Ytimgdlddfnglaaa
open Go.RowKit

set_option maxRecDepth 100000 in
set_option maxHeartbeats 8000000 in
theorem refAtQ_any (A : Option Addr) (n c : Nat) (l : Qu) (id : Int) (w : World) (hl : QAsk w A n c l) :
    Calls Try.prog 24 #[.slice A n c, .int .i64 id] w fun e w' => e = .returned (.int .i64 (atZ l id)) ∧ w = w' := by
  have HL := Lib.hid hl.reads
  have HN := Lib.hid hl.reads.len
  have hm := hl.few
  unfold maxLen at hm
  clear hl
  go_enter Try.func24, Try.ntmps24
  go_wp2
  go_loop [5] (fun iv => ∃ k : Nat, k ≤ n ∧ iv = .int .i64 k ∧ ∀ i, i < k → (jAt l i).id ≠ id) (fun iv => n - (intOf iv).toNat)
  case atStart => exact ⟨0, Nat.zero_le _, rfl, fun i hi => absurd hi (by omega)⟩
  case round =>
    obtain ⟨k, hk, rfl, hna⟩ := hrel
    have HNA := Lib.hid hna
    clear hna
    by_cases hlt : k < n
    · obtain ⟨b, off, A2, m2, c2, rfl, _, ⟨e0, e1, e2, e3, e4, e5, e6, e7, e8, e9, e10, e11, e12⟩, _⟩ := HL.out.one hlt
      clear e1 e2 e3 e4 e5 e6 e7 e8 e9 e10 e11 e12
      obtain ⟨x, hx⟩ : ∃ x, (jAt l k).id = x := ⟨_, rfl⟩
      rw [hx] at e0
      have HX := Lib.hid hx
      clear hx
      by_cases hxi : x = id
      · have e1 : Hid ((k : Int) = atZ l id) := Lib.hid (atZ_yes (by rw [HN.out]; exact hlt) (HX.out.trans hxi) HNA.out).symm
        have d1 : (x == id) = true := by rw [beq_iff_eq]; exact hxi
        clear hxi
        go_wp2
        go_ret
        exact ⟨by rw [e1.out]; rfl, rfl⟩
      · have e1 : Hid (∀ i, i < k + 1 → (jAt l i).id ≠ id) := Lib.hid (fun i hi => by
          by_cases e : i = k
          · subst e; rw [HX.out]; exact hxi
          · exact HNA.out i (by omega))
        have d1 : (x == id) = false := by rw [beq_eq_false_iff_ne]; exact hxi
        clear hxi
        go_wp2
        go_round
        case rel => exact ⟨k + 1, by omega, by go_num, e1.out⟩
        case measure => simp [intOf]; omega
    · have e1 : Hid (atZ l id = -1) := Lib.hid (atZ_no fun i hi => HNA.out i (by rw [HN.out] at hi; omega))
      clear HNA
      go_wp2
      go_ret
      exact ⟨by rw [e1.out]; rfl, rfl⟩
theorem refAtQ_has {A : Option Addr} {n c : Nat} {l : Qu} {id : Int} {w : World} {k : Nat} (hl : QAsk w A n c l) (hh : HasQ l id) (e : atN l id = k) :
    Calls Try.prog 24 #[.slice A n c, .int .i64 id] w fun e w' => e = .returned (.int .i64 (k : Int)) ∧ Below w.heap.size w w' := by
  subst e
  exact (refAtQ_any A n c l id w hl).mono fun e w' ⟨h1, h2⟩ => ⟨by rw [h1, atZ_has hh], by rw [← h2]; exact Below.refl _ _⟩
theorem refAtQ_b {A : Option Addr} {n c : Nat} {l : Qu} {id : Int} {w : World} {z : Int} (hl : QAsk w A n c l) (e : atZ l id = z) :
    Calls Try.prog 24 #[.slice A n c, .int .i64 id] w fun e w' => e = .returned (.int .i64 z) ∧ Below w.heap.size w w' := by
  subst e
  exact (refAtQ_any A n c l id w hl).mono fun e w' ⟨h1, h2⟩ => ⟨h1, by rw [← h2]; exact Below.refl _ _⟩

set_option maxRecDepth 100000 in
set_option maxHeartbeats 8000000 in
theorem refShortQ_any (A : Option Addr) (n c : Nat) (l : Qu) (w : World) (hl : QAsk w A n c l) :
    Calls Try.prog 8 #[.slice A n c] w fun e w' => e = .returned (.bool (shortQ l)) ∧ w = w' := by
  have HL := Lib.hid hl.reads
  have HN := Lib.hid hl.reads.len
  have hm := hl.few
  unfold maxLen at hm
  clear hl
  by_cases h14 : 14 < n
  · have d1 : decide ((14 : Int) < (n : Int)) = true := by simp; omega
    have e1 : Hid (shortQ l = false) := Lib.hid (decide_eq_false fun h => by have := h.1; have := HN.out; omega)
    go_enter Try.func8, Try.ntmps8
    go_wp2
    go_ret
    exact ⟨ret_bl e1.out, rfl⟩
  have d1 : decide ((14 : Int) < (n : Int)) = false := by simp; omega
  go_enter Try.func8, Try.ntmps8
  go_wp2
  go_loop [3] (fun iv => ∃ k : Nat, k ≤ n ∧ iv = .int .i64 k ∧ ∀ i, i < k → (jAt l i).needs.length ≤ 20) (fun iv => n - (intOf iv).toNat)
  case atStart => exact ⟨0, Nat.zero_le _, rfl, fun i hi => absurd hi (by omega)⟩
  case round =>
    obtain ⟨k, hk, rfl, hna⟩ := hrel
    have HNA := Lib.hid hna
    clear hna
    by_cases hlt : k < n
    · obtain ⟨b, off, A2, m2, c2, rfl, _, ⟨e0, e1, e2, e3, e4, e5, e6, e7, e8, e9, e10, e11, e12⟩, ja⟩ := HL.out.one hlt
      clear e0 e1 e2 e3 e4 e5 e6 e7 e9 e10 e11 e12
      have HX := Lib.hid ja.reads.1
      clear ja
      by_cases hxi : 20 < m2
      · have e1 : Hid (shortQ l = false) := Lib.hid (decide_eq_false fun h => by have := h.2 k (by rw [HN.out]; exact hlt); have := HX.out; omega)
        have d1 : decide ((20 : Int) < (m2 : Int)) = true := by simp; omega
        clear hxi
        go_wp2
        go_ret
        exact ⟨ret_bl e1.out, rfl⟩
      · have e1 : Hid (∀ i, i < k + 1 → (jAt l i).needs.length ≤ 20) := Lib.hid (fun i hi => by
          by_cases e : i = k
          · subst e; rw [HX.out]; omega
          · exact HNA.out i (by omega))
        have d1 : decide ((20 : Int) < (m2 : Int)) = false := by simp; omega
        clear hxi
        go_wp2
        go_round
        case rel => exact ⟨k + 1, by omega, by go_num, e1.out⟩
        case measure => simp [intOf]; omega
    · have e1 : Hid (shortQ l = true) := Lib.hid (decide_eq_true ⟨by rw [HN.out]; omega, fun i hi => HNA.out i (by rw [HN.out] at hi; omega)⟩)
      clear HNA
      go_wp2
      go_ret
      exact ⟨ret_bl e1.out, rfl⟩
theorem refShortQ_b {A : Option Addr} {n c : Nat} {l : Qu} {w : World} {v : Bool} (hl : QAsk w A n c l) (e : shortQ l = v) :
    Calls Try.prog 8 #[.slice A n c] w fun e w' => e = .returned (.bool v) ∧ Below w.heap.size w w' := by
  subst e
  exact (refShortQ_any A n c l w hl).mono fun e w' ⟨h1, h2⟩ => ⟨h1, by rw [← h2]; exact Below.refl _ _⟩

set_option maxRecDepth 100000 in
set_option maxHeartbeats 8000000 in
theorem refSameQ_eq {A A2 : Option Addr} {n c c2 : Nat} {l : Qu} {w : World} (h1 : QAsk w A n c l) (h2 : QAsk w A2 n c2 l) :
    Calls Try.prog 22 #[.slice A n c, .slice A2 n c2] w fun e w' => e = .returned (.bool true) ∧ Below w.heap.size w w' := by
  have Q1 := Lib.hid h1
  have Q2 := Lib.hid h2
  have hm := h1.few
  unfold maxLen at hm
  clear h1 h2
  have dn : ((n : Int) != (n : Int)) = false := by simp
  go_enter Try.func22, Try.ntmps22
  go_wp2
  go_loopw [5] (fun iv wr => ∃ k : Nat, k ≤ n ∧ iv = .int .i64 k ∧ Below w.heap.size w wr) (fun iv _ => n - (intOf iv).toNat)
  case atStart => exact ⟨0, Nat.zero_le _, rfl, Below.refl _ _⟩
  case round =>
    obtain ⟨k, hk, rfl, hb⟩ := hrel
    have Q1q := Lib.hid (Q1.out.next hb)
    have Q2q := Lib.hid (Q2.out.next hb)
    clear Q1 Q2
    have Q1 := Q1q
    have Q2 := Q2q
    clear Q1q Q2q
    have HB := Lib.hid hb
    clear hb
    by_cases hlt : k < n
    · obtain ⟨b, off, A3, m3, c3, rfl, hb1, ⟨e0, e1, e2, e3, e4, e5, e6, e7, e8, e9, e10, e11, e12⟩, ja⟩ := Q1.out.reads.one hlt
      obtain ⟨b', off', A4, m4, c4, rfl, hb2, ⟨f0, f1, f2, f3, f4, f5, f6, f7, f8, f9, f10, f11, f12⟩, jb⟩ := Q2.out.reads.one hlt
      obtain ⟨x, hx⟩ : ∃ x, jAt l k = x := ⟨_, rfl⟩
      rw [hx] at ja jb e0 e1 e2 e3 e4 e5 e6 e7 e9 e10 e11 e12 f0 f1 f2 f3 f4 f5 f6 f7 f9 f10 f11 f12
      have JA := Lib.hid ja
      have JB := Lib.hid jb
      clear hx ja jb
      go_wp2
      have zc0 : ∀ p : Later wr, p.now.cell? ⟨b, off + k * 13, none⟩ = some (.int .i64 x.id) := fun _ => Later.cell hb1 e0
      have zc1 : ∀ p : Later wr, p.now.cell? ⟨b, off + k * 13 + 1, none⟩ = some (.int .i64 x.spec.nodes) := fun _ => Later.cell hb1 e1
      have zc2 : ∀ p : Later wr, p.now.cell? ⟨b, off + k * 13 + 2, none⟩ = some (.int .i64 x.spec.cores) := fun _ => Later.cell hb1 e2
      have zc3 : ∀ p : Later wr, p.now.cell? ⟨b, off + k * 13 + 3, none⟩ = some (.int .i64 x.spec.gpus) := fun _ => Later.cell hb1 e3
      have zc4 : ∀ p : Later wr, p.now.cell? ⟨b, off + k * 13 + 4, none⟩ = some (.string x.spec.tag) := fun _ => Later.cell hb1 e4
      have zc5 : ∀ p : Later wr, p.now.cell? ⟨b, off + k * 13 + 5, none⟩ = some (.bool x.spec.whole) := fun _ => Later.cell hb1 e5
      have zc6 : ∀ p : Later wr, p.now.cell? ⟨b, off + k * 13 + 6, none⟩ = some (.int .i64 x.spec.long) := fun _ => Later.cell hb1 e6
      have zc7 : ∀ p : Later wr, p.now.cell? ⟨b, off + k * 13 + 7, none⟩ = some (.int .i64 x.spec.prio) := fun _ => Later.cell hb1 e7
      have zc8 : ∀ p : Later wr, p.now.cell? ⟨b, off + k * 13 + 8, none⟩ = some (.slice A3 m3 c3) := fun _ => Later.cell hb1 e8
      have zc9 : ∀ p : Later wr, p.now.cell? ⟨b, off + k * 13 + 9, none⟩ = some (.int .i64 x.state) := fun _ => Later.cell hb1 e9
      have zc10 : ∀ p : Later wr, p.now.cell? ⟨b, off + k * 13 + 10, none⟩ = some (.int .i64 x.came) := fun _ => Later.cell hb1 e10
      have zc11 : ∀ p : Later wr, p.now.cell? ⟨b, off + k * 13 + 11, none⟩ = some (.int .i64 x.frm) := fun _ => Later.cell hb1 e11
      have zc12 : ∀ p : Later wr, p.now.cell? ⟨b, off + k * 13 + 12, none⟩ = some (.int .i64 x.to) := fun _ => Later.cell hb1 e12
      have zc13 : ∀ p : Later wr, p.now.cell? ⟨b', off' + k * 13, none⟩ = some (.int .i64 x.id) := fun _ => Later.cell hb2 f0
      have zc14 : ∀ p : Later wr, p.now.cell? ⟨b', off' + k * 13 + 1, none⟩ = some (.int .i64 x.spec.nodes) := fun _ => Later.cell hb2 f1
      have zc15 : ∀ p : Later wr, p.now.cell? ⟨b', off' + k * 13 + 2, none⟩ = some (.int .i64 x.spec.cores) := fun _ => Later.cell hb2 f2
      have zc16 : ∀ p : Later wr, p.now.cell? ⟨b', off' + k * 13 + 3, none⟩ = some (.int .i64 x.spec.gpus) := fun _ => Later.cell hb2 f3
      have zc17 : ∀ p : Later wr, p.now.cell? ⟨b', off' + k * 13 + 4, none⟩ = some (.string x.spec.tag) := fun _ => Later.cell hb2 f4
      have zc18 : ∀ p : Later wr, p.now.cell? ⟨b', off' + k * 13 + 5, none⟩ = some (.bool x.spec.whole) := fun _ => Later.cell hb2 f5
      have zc19 : ∀ p : Later wr, p.now.cell? ⟨b', off' + k * 13 + 6, none⟩ = some (.int .i64 x.spec.long) := fun _ => Later.cell hb2 f6
      have zc20 : ∀ p : Later wr, p.now.cell? ⟨b', off' + k * 13 + 7, none⟩ = some (.int .i64 x.spec.prio) := fun _ => Later.cell hb2 f7
      have zc21 : ∀ p : Later wr, p.now.cell? ⟨b', off' + k * 13 + 8, none⟩ = some (.slice A4 m4 c4) := fun _ => Later.cell hb2 f8
      have zc22 : ∀ p : Later wr, p.now.cell? ⟨b', off' + k * 13 + 9, none⟩ = some (.int .i64 x.state) := fun _ => Later.cell hb2 f9
      have zc23 : ∀ p : Later wr, p.now.cell? ⟨b', off' + k * 13 + 10, none⟩ = some (.int .i64 x.came) := fun _ => Later.cell hb2 f10
      have zc24 : ∀ p : Later wr, p.now.cell? ⟨b', off' + k * 13 + 11, none⟩ = some (.int .i64 x.frm) := fun _ => Later.cell hb2 f11
      have zc25 : ∀ p : Later wr, p.now.cell? ⟨b', off' + k * 13 + 12, none⟩ = some (.int .i64 x.to) := fun _ => Later.cell hb2 f12
      refine wp_region_later (by kernel_rfl) (by kernel_rfl) ?_
      repeat (first | go_big_quiet_skip | (go_big_quiet_want; go_big_quiet_op; first | go_big_quiet_on | (apply Exists.intro; refine ⟨fun pz => ?_, ?_⟩; (first | (go_at_call 21; exact Calls.later_of (refSameJ_b (JA.out.next pz.bel) (JB.out.next pz.bel) (sameJ_iff.2 rfl))) | fail); go_big_quiet_on)))
      refine wpQuiet_nil ?_
      intro _ hw'
      obtain ⟨pz, rfl⟩ := hw'
      obtain ⟨w1, hb⟩ := pz
      try dsimp only
      clear zc0 zc1 zc2 zc3 zc4 zc5 zc6 zc7 zc8 zc9 zc10 zc11 zc12 zc13 zc14 zc15 zc16 zc17 zc18 zc19 zc20 zc21 zc22 zc23 zc24 zc25
      have HBq := Lib.hid (HB.out.trans (hb.mono HB.out.size))
      clear HB
      have HB := HBq
      clear HBq
      have Q1q := Lib.hid (Q1.out.next hb)
      clear Q1
      have Q1 := Q1q
      clear Q1q
      have Q2q := Lib.hid (Q2.out.next hb)
      clear Q2
      have Q2 := Q2q
      clear Q2q
      clear hb
      clear JA JB e0 e1 e2 e3 e4 e5 e6 e7 e8 e9 e10 e11 e12 f0 f1 f2 f3 f4 f5 f6 f7 f8 f9 f10 f11 f12
      go_wp2
      go_roundw
      case rel => exact ⟨k + 1, by omega, by go_num, HB.out⟩
      case measure => simp [intOf]; omega
    · go_wp2
      go_ret
      exact ⟨rfl, HB.out⟩

end Go.Proofs.Ytimgdlddfnglaaa
