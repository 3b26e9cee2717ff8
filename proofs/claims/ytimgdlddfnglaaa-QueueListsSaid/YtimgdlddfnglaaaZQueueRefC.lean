/- The reference's IsReady and IsLost of layer 12. Written by gen/gen_queue.py. -/
import Derived.Test.YtimgdlddfnglaaaZQueueRefB
namespace Go.Proofs.Ytimgdlddfnglaaa
open Go.RowKit

set_option maxRecDepth 100000 in
set_option maxHeartbeats 8000000 in
theorem refIsReady_any (A : Option Addr) (n c : Nat) (l : Qu) (A2 : Option Addr) (m c2 : Nat) (j : Jb) (w : World) (hl : QAsk w A n c l) (hj : JAsk w A2 m c2 j) (hn : ∀ k, k < j.needs.length → HasQ l (j.needs.getD k 0)) : Calls Try.prog 29 #[.slice A n c, .agg #[.int .i64 j.id, .int .i64 j.spec.nodes, .int .i64 j.spec.cores, .int .i64 j.spec.gpus, .string j.spec.tag, .bool j.spec.whole, .int .i64 j.spec.long, .int .i64 j.spec.prio, .slice A2 m c2, .int .i64 j.state, .int .i64 j.came, .int .i64 j.frm, .int .i64 j.to]] w fun e w' => e = .returned (.bool (readyB l j)) ∧ Below w.heap.size w w' := by
  obtain ⟨W, hW⟩ : ∃ W, W = w.alloc (jO j A2 m c2) := ⟨_, rfl⟩
  have BX : Hid (BoxJ W w.heap.size j A2 m c2) := Lib.hid (by rw [hW]; exact boxJ_new w j A2 m c2)
  have hb0 : Below w.heap.size w W := by rw [hW]; exact (Below.refl _ _).alloc (Nat.le_refl _) _
  have HB := Lib.hid hb0
  have QA := Lib.hid (hl.next hb0)
  have JA := Lib.hid (hj.next hb0)
  have hm := hj.few
  unfold maxLen at hm
  have q9 := BX.out.c9
  rw [hW] at q9
  unfold jO at hW q9
  clear hb0 hl hj
  have HN := Lib.hid hn
  clear hn
  by_cases hs : j.state = 0
  case neg =>
    have d1 : (j.state != 0) = true := by rw [bne_iff_ne]; exact hs
    have HV : Hid (readyB l j = false) := Lib.hid (decide_eq_false fun h => hs h.1)
    clear hs
    go_enter Try.func29, Try.ntmps29
    go_wp2_with fail
    rw [← hW]
    clear hW q9
    go_wp2
    go_ret
    exact ⟨ret_bl HV.out, HB.out⟩
  have d1 : (j.state != 0) = false := by simpa using hs
  have HS0 := Lib.hid hs
  clear hs
  go_enter Try.func29, Try.ntmps29
  go_wp2
  rw [← hW]
  clear hW q9
  have q8 := BX.out.c8
  go_loop [5] (fun iv => ∃ k : Nat, k ≤ m ∧ iv = .int .i64 k ∧ ∀ q, q < k → (jOf l (j.needs.getD q 0)).state = 3) (fun iv => m - (intOf iv).toNat)
  case atStart => exact ⟨0, Nat.zero_le _, rfl, fun i hi => absurd hi (by omega)⟩
  case round =>
    obtain ⟨k, hk, rfl, hna⟩ := hrel
    have HNA := Lib.hid hna
    clear hna
    by_cases hlt : k < m
    · have hkl : k < j.needs.length := by rw [JA.out.reads.1]; exact hlt
      have hh := HN.out k hkl
      obtain ⟨b2, off2, rfl, hb2, hc2⟩ := JA.out.reads.one hlt
      obtain ⟨y, hy⟩ : ∃ y, j.needs.getD k 0 = y := ⟨_, rfl⟩
      rw [hy] at hc2 hh
      have HY := Lib.hid hy
      obtain ⟨z, hz⟩ : ∃ z, atN l y = z := ⟨_, rfl⟩
      have hzn : z < n := by have h1 : atN l y < l.length := hh; rw [hz, QA.out.reads.len] at h1; exact h1
      obtain ⟨b, off, A3, m3, c3, rfl, hb1, ⟨e0, e1, e2, e3, e4, e5, e6, e7, e8, e9, e10, e11, e12⟩, _⟩ := QA.out.reads.one hzn
      clear e0 e1 e2 e3 e4 e5 e6 e7 e8 e10 e11 e12
      obtain ⟨x, hx⟩ : ∃ x, (jAt l z).state = x := ⟨_, rfl⟩
      rw [hx] at e9
      have HX : Hid ((jOf l (j.needs.getD k 0)).state = x) := Lib.hid (by rw [HY.out]; unfold jOf; rw [hz]; exact hx)
      have HZ2 : Hid (Calls Try.prog 24 #[.slice (some ⟨b, off, none⟩) n c, .int .i64 y] W fun e w' => e = .returned (.int .i64 (z : Int)) ∧ W = w') := Lib.hid ((refAtQ_any _ n c l y _ QA.out).mono fun e w' ⟨h1, h2⟩ => ⟨by rw [h1, atZ_has hh, hz], h2⟩)
      have HKL := Lib.hid hkl
      clear hy hz hx hh hkl hb2 hb1
      by_cases x3 : x = 3
      · have d3 : (x != 3) = false := by simpa using x3
        have HNN : Hid (∀ q, q < k + 1 → (jOf l (j.needs.getD q 0)).state = 3) := Lib.hid (fun q hq => by
          by_cases e : q = k
          · subst e; rw [HX.out]; exact x3
          · exact HNA.out q (by omega))
        clear x3
        go_wp2_with fail
        refine HZ2.out.mono ?_
        rintro e wz ⟨rfl, rfl⟩
        clear HZ2
        go_wp2
        go_round
        case rel => exact ⟨k + 1, by omega, by go_num, HNN.out⟩
        case measure => simp [intOf]; omega
      · have d3 : (x != 3) = true := by rw [bne_iff_ne]; exact x3
        have HV : Hid (readyB l j = false) := Lib.hid (decide_eq_false fun h => x3 (by rw [← HX.out]; exact h.2 k HKL.out))
        clear x3
        go_wp2_with fail
        refine HZ2.out.mono ?_
        rintro e wz ⟨rfl, rfl⟩
        clear HZ2
        go_wp2
        go_ret
        exact ⟨ret_bl HV.out, HB.out⟩
    · have HV : Hid (readyB l j = true) := Lib.hid (decide_eq_true ⟨HS0.out, fun q hq => HNA.out q (by rw [JA.out.reads.1] at hq; omega)⟩)
      clear HNA
      go_wp2
      go_ret
      exact ⟨ret_bl HV.out, HB.out⟩
theorem refIsReady_b {A : Option Addr} {n c : Nat} {l : Qu} {A2 : Option Addr} {m c2 : Nat} {j : Jb} {w : World} {v : Bool} (hl : QAsk w A n c l) (hj : JAsk w A2 m c2 j) (hn : ∀ k, k < j.needs.length → HasQ l (j.needs.getD k 0)) (e : readyB l j = v) :
    Calls Try.prog 29 #[.slice A n c, .agg #[.int .i64 j.id, .int .i64 j.spec.nodes, .int .i64 j.spec.cores, .int .i64 j.spec.gpus, .string j.spec.tag, .bool j.spec.whole, .int .i64 j.spec.long, .int .i64 j.spec.prio, .slice A2 m c2, .int .i64 j.state, .int .i64 j.came, .int .i64 j.frm, .int .i64 j.to]] w fun e w' => e = .returned (.bool v) ∧ Below w.heap.size w w' := by
  subst e; exact refIsReady_any A n c l A2 m c2 j w hl hj hn

set_option maxRecDepth 100000 in
set_option maxHeartbeats 8000000 in
theorem refIsLost_i (l : Qu) (hr : RightQ l) : ∀ (N i : Nat), i < N → i < l.length → ∀ (j : Jb), jAt l i = j → ∀ (A : Option Addr) (n c : Nat) (A2 : Option Addr) (m c2 : Nat) (w : World) (_ : QAsk w A n c l) (_ : JAsk w A2 m c2 j), Calls Try.prog 31 #[.slice A n c, .agg #[.int .i64 j.id, .int .i64 j.spec.nodes, .int .i64 j.spec.cores, .int .i64 j.spec.gpus, .string j.spec.tag, .bool j.spec.whole, .int .i64 j.spec.long, .int .i64 j.spec.prio, .slice A2 m c2, .int .i64 j.state, .int .i64 j.came, .int .i64 j.frm, .int .i64 j.to]] w fun e w' => e = .returned (.bool (lostB l j)) ∧ Below w.heap.size w w' := by
  intro N
  induction N with
  | zero => intro i hi; omega
  | succ N ih =>
  intro i hiN hil j hji A n c A2 m c2 w hl hj
  have IH := Lib.hid ih
  clear ih
  obtain ⟨W, hW⟩ : ∃ W, W = w.alloc (jO j A2 m c2) := ⟨_, rfl⟩
  have BX : Hid (BoxJ W w.heap.size j A2 m c2) := Lib.hid (by rw [hW]; exact boxJ_new w j A2 m c2)
  have hb0 : Below w.heap.size w W := by rw [hW]; exact (Below.refl _ _).alloc (Nat.le_refl _) _
  have HB := Lib.hid hb0
  have QA := Lib.hid (hl.next hb0)
  have JA := Lib.hid (hj.next hb0)
  have hm := hj.few
  unfold maxLen at hm
  have q9 := BX.out.c9
  rw [hW] at q9
  unfold jO at hW q9
  clear hb0 hl hj
  have HJ := Lib.hid hji
  have HNE : Hid (∀ k, k < j.needs.length → HasQ l (j.needs.getD k 0) ∧ atN l (j.needs.getD k 0) < i) := Lib.hid (fun k hk => by
    have h1 := hr.needs hil k
    have h2 := hr.ahead hil (k := k)
    rw [hji] at h1 h2
    exact ⟨h1 hk, h2 hk⟩)
  have HR := Lib.hid hr
  clear hr hji hil
  by_cases hs : 1 < j.state
  · have d1 : decide (1 < j.state) = true := decide_eq_true hs
    have HV : Hid (lostB l j = false) := Lib.hid (lostB_no.2 fun h => by have := h.state; omega)
    clear hs
    go_enter Try.func31, Try.ntmps31
    go_wp2_with fail
    rw [← hW]
    clear hW q9
    go_wp2_with fail
    go_ret
    exact ⟨ret_bl HV.out, HB.out⟩
  have d1 : decide (1 < j.state) = false := decide_eq_false hs
  have hs' : j.state ≤ 1 := by omega
  have HS := Lib.hid hs'
  clear hs'
  go_enter Try.func31, Try.ntmps31
  go_wp2_with fail
  rw [← hW]
  clear hW q9
  go_loopw [5] (fun iv wr => ∃ k : Nat, k ≤ m ∧ iv = .int .i64 k ∧ (∀ q, q < k → (jOf l (j.needs.getD q 0)).state ≤ 3 ∧ ¬ Lost l (jOf l (j.needs.getD q 0))) ∧ Below W.heap.size W wr) (fun iv _ => m - (intOf iv).toNat)
  case atStart => exact ⟨0, Nat.zero_le _, rfl, fun i hi => absurd hi (by omega), Below.refl _ _⟩
  case round =>
    obtain ⟨k, hk, rfl, hna, hb⟩ := hrel
    have HNA := Lib.hid hna
    have HW := Lib.hid hb
    have HB2 := Lib.hid (HB.out.trans (hb.mono HB.out.size))
    clear HB
    have HB := HB2
    clear HB2
    have QAq := Lib.hid (QA.out.next hb)
    clear QA
    have QA := QAq
    clear QAq
    have JAq := Lib.hid (JA.out.next hb)
    clear JA
    have JA := JAq
    clear JAq
    have BXq := Lib.hid (BX.out.next hb)
    clear BX
    have BX := BXq
    clear BXq
    clear hna hb
    have q8 := BX.out.c8
    by_cases hlt : k < m
    · have hkl : k < j.needs.length := by rw [JA.out.reads.1]; exact hlt
      obtain ⟨hh, hza⟩ := HNE.out k hkl
      obtain ⟨b2, off2, rfl, hb2, hc2⟩ := JA.out.reads.one hlt
      obtain ⟨y0, hy⟩ : ∃ y, j.needs.getD k 0 = y := ⟨_, rfl⟩
      rw [hy] at hc2 hh hza
      have HY := Lib.hid hy
      obtain ⟨z, hz⟩ : ∃ z, atN l y0 = z := ⟨_, rfl⟩
      rw [hz] at hza
      have hzl : z < l.length := by have h1 : atN l y0 < l.length := hh; rw [hz] at h1; exact h1
      have hzn : z < n := by rw [← QA.out.reads.len]; exact hzl
      obtain ⟨b, off, A3, m3, c3, rfl, hb1, ⟨e0, e1, e2, e3, e4, e5, e6, e7, e8, e9, e10, e11, e12⟩, ja⟩ := QA.out.reads.one hzn
      obtain ⟨y, hx⟩ : ∃ x, jAt l z = x := ⟨_, rfl⟩
      rw [hx] at ja e0 e1 e2 e3 e4 e5 e6 e7 e9 e10 e11 e12
      have JY := Lib.hid ja
      have HX : Hid (jOf l (j.needs.getD k 0) = y) := Lib.hid (by rw [HY.out]; unfold jOf; rw [hz]; exact hx)
      have HZ2 : Hid (Calls Try.prog 24 #[.slice (some ⟨b, off, none⟩) n c, .int .i64 y0] wr fun e w' => e = .returned (.int .i64 (z : Int)) ∧ wr = w') := Lib.hid ((refAtQ_any _ n c l y0 _ QA.out).mono fun e w' ⟨h1, h2⟩ => ⟨by rw [h1, atZ_has hh, hz], h2⟩)
      have HKL := Lib.hid hkl
      have IHY := Lib.hid (IH.out z (by omega) hzl y hx)
      clear hy hz hx hh hkl hb2 hb1 hza hzl ja
      go_wp2_with fail
      refine HZ2.out.mono ?_
      rintro e wz ⟨rfl, rfl⟩
      clear HZ2
      have hb := Below.alloc (Below.refl wr.heap.size wr) (Nat.le_refl _) (.cells #[.int .i64 y.id, .int .i64 y.spec.nodes, .int .i64 y.spec.cores, .int .i64 y.spec.gpus, .string y.spec.tag, .bool y.spec.whole, .int .i64 y.spec.long, .int .i64 y.spec.prio, .slice A3 m3 c3, .int .i64 y.state, .int .i64 y.came, .int .i64 y.frm, .int .i64 y.to] 30)
      have B9 := Lib.hid (boxJ_new wr y A3 m3 c3)
      have HWq := Lib.hid (HW.out.trans (hb.mono HW.out.size))
      have HBq := Lib.hid (HB.out.trans (hb.mono HB.out.size))
      clear HW HB
      have HW := HWq
      have HB := HBq
      clear HWq HBq
      have QAq := Lib.hid (QA.out.next hb)
      clear QA
      have QA := QAq
      clear QAq
      have JYq := Lib.hid (JY.out.next hb)
      clear JY
      have JY := JYq
      clear JYq
      clear hb
      have p9 := B9.out.c9
      by_cases x3 : 3 < y.state
      · have d3 : decide (3 < y.state) = true := decide_eq_true x3
        have HV : Hid (lostB l j = true) := Lib.hid (lostB_iff.2 (.ended j k HS.out HKL.out (by rw [HX.out]; exact x3)))
        clear x3
        go_wp2_with fail
        go_ret
        exact ⟨ret_bl HV.out, HB.out⟩
      have d3 : decide (3 < y.state) = false := decide_eq_false x3
      have p0 := B9.out.c0
      have p1 := B9.out.c1
      have p2 := B9.out.c2
      have p3 := B9.out.c3
      have p4 := B9.out.c4
      have p5 := B9.out.c5
      have p6 := B9.out.c6
      have p7 := B9.out.c7
      have p8 := B9.out.c8
      have p9 := B9.out.c9
      have p10 := B9.out.c10
      have p11 := B9.out.c11
      have p12 := B9.out.c12
      go_wp2_with fail
      refine (IHY.out _ n c _ m3 c3 _ QA.out JY.out).mono ?_
      rintro e w5 ⟨rfl, hb⟩
      have HWq := Lib.hid (HW.out.trans (hb.mono HW.out.size))
      have HBq := Lib.hid (HB.out.trans (hb.mono HB.out.size))
      clear HW HB
      have HW := HWq
      have HB := HBq
      clear HWq HBq hb p9
      clear p0 p1 p2 p3 p4 p5 p6 p7 p8 p9 p10 p11 p12
      cases hv : lostB l y with
      | true =>
        have HV : Hid (lostB l j = true) := Lib.hid (lostB_iff.2 (.lost j k HS.out HKL.out (by rw [HX.out]; exact lostB_iff.1 hv)))
        clear hv
        go_wp2_with fail
        go_ret
        exact ⟨ret_bl HV.out, HB.out⟩
      | false =>
        have HNN : Hid (∀ q, q < k + 1 → (jOf l (j.needs.getD q 0)).state ≤ 3 ∧ ¬ Lost l (jOf l (j.needs.getD q 0))) := Lib.hid (fun q hq => by
          by_cases e : q = k
          · subst e; rw [HX.out]; exact ⟨by omega, lostB_no.1 hv⟩
          · exact HNA.out q (by omega))
        clear hv x3
        go_wp2_with fail
        go_roundw
        case rel => exact ⟨k + 1, by omega, by go_num, HNN.out, HW.out⟩
        case measure => simp [intOf]; omega
    · have HV : Hid (lostB l j = false) := Lib.hid (lostB_no.2 fun h => by
        obtain ⟨_, q, hq, h2⟩ := lost_iff.1 h
        have h3 := HNA.out q (by rw [JA.out.reads.1] at hq; omega)
        rcases h2 with h2 | h2
        · omega
        · exact h3.2 h2)
      clear HNA
      go_wp2_with fail
      go_ret
      exact ⟨ret_bl HV.out, HB.out⟩
theorem refIsLost_b {A : Option Addr} {n c : Nat} {l : Qu} {A2 : Option Addr} {m c2 : Nat} {j : Jb} {w : World} {v : Bool} {i : Nat} (hr : RightQ l) (hi : i < l.length) (hji : jAt l i = j) (hl : QAsk w A n c l) (hj : JAsk w A2 m c2 j) (e : lostB l j = v) :
    Calls Try.prog 31 #[.slice A n c, .agg #[.int .i64 j.id, .int .i64 j.spec.nodes, .int .i64 j.spec.cores, .int .i64 j.spec.gpus, .string j.spec.tag, .bool j.spec.whole, .int .i64 j.spec.long, .int .i64 j.spec.prio, .slice A2 m c2, .int .i64 j.state, .int .i64 j.came, .int .i64 j.frm, .int .i64 j.to]] w fun e w' => e = .returned (.bool v) ∧ Below w.heap.size w w' := by
  subst e; exact refIsLost_i l hr (i + 1) i (by omega) hi j hji A n c A2 m c2 w hl hj

end Go.Proofs.Ytimgdlddfnglaaa
