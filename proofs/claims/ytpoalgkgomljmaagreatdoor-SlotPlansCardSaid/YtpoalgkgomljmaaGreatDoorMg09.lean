/- The reference's One, Same, At and Short of layer 10. Written by gen/gen_heldref4.py. What the reference's Which answers: of two lists of int, the numbers that are in either, in both, or in the first alone. The reference's Busy and Short of layer 10. Written by gen/gen_heldref5.py. Words for memory: several elements appended at once to an owned row. General: nothing of the program stands here. Words for memory: all blocks but one are as they were. General: nothing of the program stands here. A row of elements of one's own: an element is stored; its cells, told flat. General: nothing of the program stands here. -/
import Derived.Test.YtpoalgkgomljmaaGreatDoorMg08
import Derived.Test.YtpoalgkgomljmaaGreatDoorMg06
import Derived.Test.YtpoalgkgomljmaaGreatDoorMg01
import Derived.Lib.SliceRun
import Derived.Laws.OwnMore
namespace Go.Proofs.YtpoalgkgomljmaaGreatDoor
open Go.RowKit

theorem hd_ext {a b : Hd} (h1 : a.id = b.id) (h2 : a.frm = b.frm) (h3 : a.to = b.to) (h4 : a.things = b.things) : a = b := by
  cases a; cases b; simp_all
def sameH (a b : Hd) : Bool := decide (a.id = b.id ∧ a.frm = b.frm ∧ a.to = b.to ∧ a.things = b.things)
theorem sameH_iff {a b : Hd} : sameH a b = true ↔ a = b := by
  unfold sameH
  rw [decide_eq_true_eq]
  exact ⟨fun h => hd_ext h.1 h.2.1 h.2.2.1 h.2.2.2, fun h => by subst h; exact ⟨rfl, rfl, rfl, rfl⟩⟩
set_option maxRecDepth 100000 in
set_option maxHeartbeats 8000000 in
theorem refOne_0 (A : Option Addr) (m c : Nat) (A2 : Option Addr) (m2 c2 : Nat) (a b : Hd) (w : World) (ha : HAsk w A m c a) (hb : HAsk w A2 m2 c2 b) (h0 : ¬ a.id = b.id) :
    Calls Tryz.prog 27 #[.agg #[.int .i64 a.id, .slice A m c, .int .i64 a.frm, .int .i64 a.to], .agg #[.int .i64 b.id, .slice A2 m2 c2, .int .i64 b.frm, .int .i64 b.to]] w fun e w' => e = .returned (.bool false) ∧ Below w.heap.size w w' := by
  obtain ⟨W, hW⟩ : ∃ W, W = (w.alloc (hO a A m c)).alloc (hO b A2 m2 c2) := ⟨_, rfl⟩
  have BX : Hid (BoxH W w.heap.size a A m c) := Lib.hid (by rw [hW]; exact (boxH_new w a A m c).next ((Below.refl _ _).alloc (Nat.le_refl _) _))
  have BY : Hid (BoxH W (w.heap.size + 1) b A2 m2 c2) := Lib.hid (by
    have := boxH_new (w.alloc (hO a A m c)) b A2 m2 c2
    rw [show (w.alloc (hO a A m c)).heap.size = w.heap.size + 1 by simp] at this
    rw [hW]; exact this)
  have hb0 : Below w.heap.size w W := by rw [hW]; exact ((Below.refl _ _).alloc (Nat.le_refl _) _).alloc (by simp) _
  have HB := Lib.hid hb0
  have HA := Lib.hid (ha.next hb0)
  have HA2 := Lib.hid (hb.next hb0)
  unfold hO at hW
  have d0 : (a.id == b.id) = false := by simpa using h0
  clear hb0 ha hb h0
  have p0 := BX.out.c0
  have p1 := BX.out.c1
  have p2 := BX.out.c2
  have p3 := BX.out.c3
  have q0 := BY.out.c0
  have q1 := BY.out.c1
  have q2 := BY.out.c2
  have q3 := BY.out.c3
  go_enter Tryz.func27, Tryz.ntmps27
  go_wp2_with fail
  rw [← hW]
  clear hW
  go_wp2
  go_ret
  exact ⟨rfl, HB.out⟩
set_option maxRecDepth 100000 in
set_option maxHeartbeats 8000000 in
theorem refOne_1 (A : Option Addr) (m c : Nat) (A2 : Option Addr) (m2 c2 : Nat) (a b : Hd) (w : World) (ha : HAsk w A m c a) (hb : HAsk w A2 m2 c2 b) (h0 : a.id = b.id) (h1 : ¬ a.frm = b.frm) :
    Calls Tryz.prog 27 #[.agg #[.int .i64 a.id, .slice A m c, .int .i64 a.frm, .int .i64 a.to], .agg #[.int .i64 b.id, .slice A2 m2 c2, .int .i64 b.frm, .int .i64 b.to]] w fun e w' => e = .returned (.bool false) ∧ Below w.heap.size w w' := by
  obtain ⟨W, hW⟩ : ∃ W, W = (w.alloc (hO a A m c)).alloc (hO b A2 m2 c2) := ⟨_, rfl⟩
  have BX : Hid (BoxH W w.heap.size a A m c) := Lib.hid (by rw [hW]; exact (boxH_new w a A m c).next ((Below.refl _ _).alloc (Nat.le_refl _) _))
  have BY : Hid (BoxH W (w.heap.size + 1) b A2 m2 c2) := Lib.hid (by
    have := boxH_new (w.alloc (hO a A m c)) b A2 m2 c2
    rw [show (w.alloc (hO a A m c)).heap.size = w.heap.size + 1 by simp] at this
    rw [hW]; exact this)
  have hb0 : Below w.heap.size w W := by rw [hW]; exact ((Below.refl _ _).alloc (Nat.le_refl _) _).alloc (by simp) _
  have HB := Lib.hid hb0
  have HA := Lib.hid (ha.next hb0)
  have HA2 := Lib.hid (hb.next hb0)
  unfold hO at hW
  have d0 : (a.id == b.id) = true := by simpa using h0
  have d1 : (a.frm == b.frm) = false := by simpa using h1
  clear hb0 ha hb h0 h1
  have p0 := BX.out.c0
  have p1 := BX.out.c1
  have p2 := BX.out.c2
  have p3 := BX.out.c3
  have q0 := BY.out.c0
  have q1 := BY.out.c1
  have q2 := BY.out.c2
  have q3 := BY.out.c3
  go_enter Tryz.func27, Tryz.ntmps27
  go_wp2_with fail
  rw [← hW]
  clear hW
  go_wp2
  go_ret
  exact ⟨rfl, HB.out⟩
set_option maxRecDepth 100000 in
set_option maxHeartbeats 8000000 in
theorem refOne_2 (A : Option Addr) (m c : Nat) (A2 : Option Addr) (m2 c2 : Nat) (a b : Hd) (w : World) (ha : HAsk w A m c a) (hb : HAsk w A2 m2 c2 b) (h0 : a.id = b.id) (h1 : a.frm = b.frm) (h2 : ¬ a.to = b.to) :
    Calls Tryz.prog 27 #[.agg #[.int .i64 a.id, .slice A m c, .int .i64 a.frm, .int .i64 a.to], .agg #[.int .i64 b.id, .slice A2 m2 c2, .int .i64 b.frm, .int .i64 b.to]] w fun e w' => e = .returned (.bool false) ∧ Below w.heap.size w w' := by
  obtain ⟨W, hW⟩ : ∃ W, W = (w.alloc (hO a A m c)).alloc (hO b A2 m2 c2) := ⟨_, rfl⟩
  have BX : Hid (BoxH W w.heap.size a A m c) := Lib.hid (by rw [hW]; exact (boxH_new w a A m c).next ((Below.refl _ _).alloc (Nat.le_refl _) _))
  have BY : Hid (BoxH W (w.heap.size + 1) b A2 m2 c2) := Lib.hid (by
    have := boxH_new (w.alloc (hO a A m c)) b A2 m2 c2
    rw [show (w.alloc (hO a A m c)).heap.size = w.heap.size + 1 by simp] at this
    rw [hW]; exact this)
  have hb0 : Below w.heap.size w W := by rw [hW]; exact ((Below.refl _ _).alloc (Nat.le_refl _) _).alloc (by simp) _
  have HB := Lib.hid hb0
  have HA := Lib.hid (ha.next hb0)
  have HA2 := Lib.hid (hb.next hb0)
  unfold hO at hW
  have d0 : (a.id == b.id) = true := by simpa using h0
  have d1 : (a.frm == b.frm) = true := by simpa using h1
  have d2 : (a.to == b.to) = false := by simpa using h2
  clear hb0 ha hb h0 h1 h2
  have p0 := BX.out.c0
  have p1 := BX.out.c1
  have p2 := BX.out.c2
  have p3 := BX.out.c3
  have q0 := BY.out.c0
  have q1 := BY.out.c1
  have q2 := BY.out.c2
  have q3 := BY.out.c3
  go_enter Tryz.func27, Tryz.ntmps27
  go_wp2_with fail
  rw [← hW]
  clear hW
  go_wp2
  go_ret
  exact ⟨rfl, HB.out⟩
set_option maxRecDepth 100000 in
set_option maxHeartbeats 8000000 in
theorem refOne_3 (A : Option Addr) (m c : Nat) (A2 : Option Addr) (m2 c2 : Nat) (a b : Hd) (w : World) (ha : HAsk w A m c a) (hb : HAsk w A2 m2 c2 b) (h0 : a.id = b.id) (h1 : a.frm = b.frm) (h2 : a.to = b.to) :
    Calls Tryz.prog 27 #[.agg #[.int .i64 a.id, .slice A m c, .int .i64 a.frm, .int .i64 a.to], .agg #[.int .i64 b.id, .slice A2 m2 c2, .int .i64 b.frm, .int .i64 b.to]] w fun e w' => e = .returned (.bool (sameB a.things b.things)) ∧ Below w.heap.size w w' := by
  obtain ⟨W, hW⟩ : ∃ W, W = (w.alloc (hO a A m c)).alloc (hO b A2 m2 c2) := ⟨_, rfl⟩
  have BX : Hid (BoxH W w.heap.size a A m c) := Lib.hid (by rw [hW]; exact (boxH_new w a A m c).next ((Below.refl _ _).alloc (Nat.le_refl _) _))
  have BY : Hid (BoxH W (w.heap.size + 1) b A2 m2 c2) := Lib.hid (by
    have := boxH_new (w.alloc (hO a A m c)) b A2 m2 c2
    rw [show (w.alloc (hO a A m c)).heap.size = w.heap.size + 1 by simp] at this
    rw [hW]; exact this)
  have hb0 : Below w.heap.size w W := by rw [hW]; exact ((Below.refl _ _).alloc (Nat.le_refl _) _).alloc (by simp) _
  have HB := Lib.hid hb0
  have HA := Lib.hid (ha.next hb0)
  have HA2 := Lib.hid (hb.next hb0)
  unfold hO at hW
  have d0 : (a.id == b.id) = true := by simpa using h0
  have d1 : (a.frm == b.frm) = true := by simpa using h1
  have d2 : (a.to == b.to) = true := by simpa using h2
  obtain ⟨v, hv⟩ : ∃ v, sameB a.things b.things = v := ⟨_, rfl⟩
  rw [hv]
  have EV := Lib.hid hv
  clear hv
  clear hb0 ha hb h0 h1 h2
  have p0 := BX.out.c0
  have p1 := BX.out.c1
  have p2 := BX.out.c2
  have p3 := BX.out.c3
  have q0 := BY.out.c0
  have q1 := BY.out.c1
  have q2 := BY.out.c2
  have q3 := BY.out.c3
  go_enter Tryz.func27, Tryz.ntmps27
  go_wp2_with fail
  rw [← hW]
  clear hW
  refine (ri_same HA.out.reads HA2.out.reads HA.out.few HA2.out.few EV.out).mono ?_
  rintro e w1 ⟨rfl, hb⟩
  have HB1 := Lib.hid (HB.out.trans (hb.mono HB.out.size))
  clear hb
  go_wp2
  go_ret
  exact ⟨rfl, HB1.out⟩
theorem refOne_any {A : Option Addr} {m c : Nat} {A2 : Option Addr} {m2 c2 : Nat} {a b : Hd} {w : World} {v : Bool} (ha : HAsk w A m c a) (hb : HAsk w A2 m2 c2 b) (e : sameH a b = v) :
    Calls Tryz.prog 27 #[.agg #[.int .i64 a.id, .slice A m c, .int .i64 a.frm, .int .i64 a.to], .agg #[.int .i64 b.id, .slice A2 m2 c2, .int .i64 b.frm, .int .i64 b.to]] w fun e w' => e = .returned (.bool v) ∧ Below w.heap.size w w' := by
  subst e
  by_cases h0 : a.id = b.id
  · by_cases h1 : a.frm = b.frm
    · by_cases h2 : a.to = b.to
      · have e : sameH a b = sameB a.things b.things := by
          rw [Bool.eq_iff_iff, sameB_iff]
          unfold sameH
          rw [decide_eq_true_eq]
          exact ⟨fun h => h.2.2.2, fun h => ⟨h0, h1, h2, h⟩⟩
        rw [e]
        exact refOne_3 A m c A2 m2 c2 a b w ha hb h0 h1 h2
      · rw [show sameH a b = false from decide_eq_false (fun e => h2 e.2.2.1)]
        exact refOne_2 A m c A2 m2 c2 a b w ha hb h0 h1 h2
    · rw [show sameH a b = false from decide_eq_false (fun e => h1 e.2.1)]
      exact refOne_1 A m c A2 m2 c2 a b w ha hb h0 h1
  · rw [show sameH a b = false from decide_eq_false (fun e => h0 e.1)]
    exact refOne_0 A m c A2 m2 c2 a b w ha hb h0

theorem tb_ext {a b : Tb} {n : Nat} (h1 : a.length = n) (h2 : b.length = n) (h : ∀ j, j < n → a.getD j hd0 = b.getD j hd0) : a = b := by
  apply List.ext_getElem (by omega)
  intro j hj1 hj2
  have := h j (by omega)
  rwa [getD_hd hj1, getD_hd hj2] at this
def sameT' (a b : Tb) : Bool := decide (a.length = b.length ∧ ∀ j, j < a.length → sameH (a.getD j hd0) (b.getD j hd0) = true)
theorem sameT_iff {a b : Tb} : sameT' a b = true ↔ a = b := by
  unfold sameT'
  rw [decide_eq_true_eq]
  constructor
  · rintro ⟨h1, h2⟩
    exact tb_ext rfl h1.symm fun j hj => sameH_iff.1 (h2 j hj)
  · rintro rfl
    exact ⟨rfl, fun j _ => sameH_iff.2 rfl⟩
set_option maxRecDepth 100000 in
set_option maxHeartbeats 8000000 in
theorem refSameT_any (A : Option Addr) (n c : Nat) (A2 : Option Addr) (n2 c2 : Nat) (a b : Tb) (w : World) (ha : RT w w.heap.size A n a) (hb : RT w w.heap.size A2 n2 b) (hn : n ≤ maxLen) (hn2 : n2 ≤ maxLen) :
    Calls Tryz.prog 17 #[.slice A n c, .slice A2 n2 c2] w fun e w' => e = .returned (.bool (sameT' a b)) ∧ Below w.heap.size w w' := by
  have HA0 := Lib.hid ha
  have HB0 := Lib.hid hb
  have LA := Lib.hid ha.len
  have LB := Lib.hid hb.len
  obtain ⟨v, hv⟩ : ∃ v, sameT' a b = v := ⟨_, rfl⟩
  have HV0 := Lib.hid hv
  rw [hv]
  unfold maxLen at hn hn2
  clear ha hb hv
  by_cases hnn : n = n2
  · subst hnn
    have d0 : (n != n) = false := by simp
    go_enter Tryz.func17, Tryz.ntmps17
    go_wp2
    go_loopw [5] (fun kv wr => ∃ k : Nat, k ≤ n ∧ kv = .int .i64 k ∧ (∀ j, j < k → sameH (a.getD j hd0) (b.getD j hd0) = true) ∧ Below w.heap.size w wr) (fun kv _ => n - (intOf kv).toNat)
    case atStart => exact ⟨0, Nat.zero_le _, rfl, fun j hj => absurd hj (by omega), Below.refl _ _⟩
    case round =>
      obtain ⟨k, hk, rfl, hpre, hbel⟩ := hrel
      have HP := Lib.hid hpre
      have HB := Lib.hid hbel
      have HRA := Lib.hid (HA0.out.next hbel)
      have HRB := Lib.hid (HB0.out.next hbel)
      clear hpre hbel
      by_cases hlt : k < n
      · obtain ⟨ba, oa, A3, m3, c3, rfl, hla, c0, c1, c2', c3', hx⟩ := HRA.out.one hlt
        obtain ⟨bb, ob, A4, m4, c4, rfl, hlb, d0', d1, d2, d3, hy⟩ := HRB.out.one hlt
        have d0 := d0'
        clear d0'
        obtain ⟨x, hxx⟩ : ∃ x, a.getD k hd0 = x := ⟨_, rfl⟩
        obtain ⟨y, hyy⟩ : ∃ y, b.getD k hd0 = y := ⟨_, rfl⟩
        rw [hxx] at c0 c2' c3' hx
        rw [hyy] at d0 d2 d3 hy
        have HX := Lib.hid hx
        have HY := Lib.hid hy
        have HXX := Lib.hid hxx
        have HYY := Lib.hid hyy
        clear hx hy hxx hyy
        cases hs : sameH x y with
        | true =>
          have EV := Lib.hid hs
          have HN : Hid (∀ j, j < k + 1 → sameH (a.getD j hd0) (b.getD j hd0) = true) := Lib.hid (fun j hj => by
            by_cases e : j = k
            · subst e; rw [HXX.out, HYY.out]; exact hs
            · exact HP.out j (by omega))
          clear hs
          go_wp2
          have zc0 : ∀ p : Later wr, p.now.cell? ⟨ba, oa + k * 4, none⟩ = some (.int .i64 x.id) := fun _ => Later.cell hla c0
          have zc1 : ∀ p : Later wr, p.now.cell? ⟨ba, oa + k * 4 + 1, none⟩ = some (.slice A3 m3 c3) := fun _ => Later.cell hla c1
          have zc2 : ∀ p : Later wr, p.now.cell? ⟨ba, oa + k * 4 + 2, none⟩ = some (.int .i64 x.frm) := fun _ => Later.cell hla c2'
          have zc3 : ∀ p : Later wr, p.now.cell? ⟨ba, oa + k * 4 + 3, none⟩ = some (.int .i64 x.to) := fun _ => Later.cell hla c3'
          have zc4 : ∀ p : Later wr, p.now.cell? ⟨bb, ob + k * 4, none⟩ = some (.int .i64 y.id) := fun _ => Later.cell hlb d0
          have zc5 : ∀ p : Later wr, p.now.cell? ⟨bb, ob + k * 4 + 1, none⟩ = some (.slice A4 m4 c4) := fun _ => Later.cell hlb d1
          have zc6 : ∀ p : Later wr, p.now.cell? ⟨bb, ob + k * 4 + 2, none⟩ = some (.int .i64 y.frm) := fun _ => Later.cell hlb d2
          have zc7 : ∀ p : Later wr, p.now.cell? ⟨bb, ob + k * 4 + 3, none⟩ = some (.int .i64 y.to) := fun _ => Later.cell hlb d3
          refine wp_region_later (by kernel_rfl) (by kernel_rfl) ?_
          repeat (first | go_big_quiet_skip | (go_big_quiet_want; go_big_quiet_op; first | go_big_quiet_on | (apply Exists.intro; refine ⟨fun pz => ?_, ?_⟩; (first | (go_at_call 27; exact Calls.later_of (refOne_any (HX.out.next pz.bel) (HY.out.next pz.bel) EV.out)) | fail); go_big_quiet_on)))
          refine wpQuiet_nil ?_
          intro _ hw'
          obtain ⟨pz, rfl⟩ := hw'
          obtain ⟨w1, hb⟩ := pz
          try dsimp only
          clear zc0 zc1 zc2 zc3 zc4 zc5 zc6 zc7
          have HBq := Lib.hid (HB.out.trans (hb.mono HB.out.size))
          clear HB
          have HB := HBq
          clear HBq
          have HXq := Lib.hid (HX.out.next hb)
          clear HX
          have HX := HXq
          clear HXq
          have HYq := Lib.hid (HY.out.next hb)
          clear HY
          have HY := HYq
          clear HYq
          clear hb
          go_wp2
          go_roundw
          case rel => exact ⟨k + 1, by omega, by go_num, HN.out, HB.out⟩
          case measure => simp [intOf]; omega
        | false =>
          have EV := Lib.hid hs
          have HV : Hid (v = false) := Lib.hid (by
            rw [← HV0.out]
            exact decide_eq_false (fun h => by have := h.2 k (by rw [LA.out]; exact hlt); rw [HXX.out, HYY.out, hs] at this; cases this))
          clear hs
          go_wp2
          have zc0 : ∀ p : Later wr, p.now.cell? ⟨ba, oa + k * 4, none⟩ = some (.int .i64 x.id) := fun _ => Later.cell hla c0
          have zc1 : ∀ p : Later wr, p.now.cell? ⟨ba, oa + k * 4 + 1, none⟩ = some (.slice A3 m3 c3) := fun _ => Later.cell hla c1
          have zc2 : ∀ p : Later wr, p.now.cell? ⟨ba, oa + k * 4 + 2, none⟩ = some (.int .i64 x.frm) := fun _ => Later.cell hla c2'
          have zc3 : ∀ p : Later wr, p.now.cell? ⟨ba, oa + k * 4 + 3, none⟩ = some (.int .i64 x.to) := fun _ => Later.cell hla c3'
          have zc4 : ∀ p : Later wr, p.now.cell? ⟨bb, ob + k * 4, none⟩ = some (.int .i64 y.id) := fun _ => Later.cell hlb d0
          have zc5 : ∀ p : Later wr, p.now.cell? ⟨bb, ob + k * 4 + 1, none⟩ = some (.slice A4 m4 c4) := fun _ => Later.cell hlb d1
          have zc6 : ∀ p : Later wr, p.now.cell? ⟨bb, ob + k * 4 + 2, none⟩ = some (.int .i64 y.frm) := fun _ => Later.cell hlb d2
          have zc7 : ∀ p : Later wr, p.now.cell? ⟨bb, ob + k * 4 + 3, none⟩ = some (.int .i64 y.to) := fun _ => Later.cell hlb d3
          refine wp_region_later (by kernel_rfl) (by kernel_rfl) ?_
          repeat (first | go_big_quiet_skip | (go_big_quiet_want; go_big_quiet_op; first | go_big_quiet_on | (apply Exists.intro; refine ⟨fun pz => ?_, ?_⟩; (first | (go_at_call 27; exact Calls.later_of (refOne_any (HX.out.next pz.bel) (HY.out.next pz.bel) EV.out)) | fail); go_big_quiet_on)))
          refine wpQuiet_nil ?_
          intro _ hw'
          obtain ⟨pz, rfl⟩ := hw'
          obtain ⟨w1, hb⟩ := pz
          try dsimp only
          clear zc0 zc1 zc2 zc3 zc4 zc5 zc6 zc7
          have HBq := Lib.hid (HB.out.trans (hb.mono HB.out.size))
          clear HB
          have HB := HBq
          clear HBq
          have HXq := Lib.hid (HX.out.next hb)
          clear HX
          have HX := HXq
          clear HXq
          have HYq := Lib.hid (HY.out.next hb)
          clear HY
          have HY := HYq
          clear HYq
          clear hb
          go_wp2
          go_ret
          exact ⟨by rw [HV.out]; rfl, HB.out⟩
      · have hkn : k = n := by omega
        have HV : Hid (v = true) := Lib.hid (by
          rw [← HV0.out]
          exact decide_eq_true ⟨by rw [LA.out, LB.out], fun j hj => HP.out j (by rw [hkn, ← LA.out]; exact hj)⟩)
        go_wp2
        go_ret
        exact ⟨by rw [HV.out]; rfl, HB.out⟩
  · have d0 : (n != n2) = true := by simpa using hnn
    have d1 : ((n : Int) != (n2 : Int)) = true := by simp; omega
    have HV : Hid (v = false) := Lib.hid (by
      rw [← HV0.out]
      exact decide_eq_false (fun h => hnn (by have := h.1; rw [LA.out, LB.out] at this; exact this)))
    go_enter Tryz.func17, Tryz.ntmps17
    go_wp2
    go_ret
    exact ⟨by rw [HV.out]; rfl, Below.refl _ _⟩

/-- the first holding of this number; -1: none is -/
def FirstAtH (l : Tb) (id r : Int) : Prop := (r = -1 ∧ ∀ j, j < l.length → (l.getD j hd0).id ≠ id) ∨ ∃ k : Nat, k < l.length ∧ r = (k : Int) ∧ (l.getD k hd0).id = id ∧ ∀ j, j < k → (l.getD j hd0).id ≠ id
set_option maxRecDepth 100000 in
set_option maxHeartbeats 8000000 in
theorem refAt_any (A : Option Addr) (n c : Nat) (l : Tb) (id : Int) (w : World) (hr : RT w w.heap.size A n l) (hn : n ≤ maxLen) :
    Calls Tryz.prog 67 #[.slice A n c, .int .i64 id] w fun e w' => (∃ r, e = .returned (.int .i64 r) ∧ FirstAtH l id r) ∧ w = w' := by
  have HR := Lib.hid hr
  have HL := Lib.hid hr.len
  unfold maxLen at hn
  clear hr
  go_enter Tryz.func67, Tryz.ntmps67
  go_wp2
  go_loopw [5] (fun kv wr => ∃ k : Nat, k ≤ n ∧ kv = .int .i64 k ∧ (∀ j, j < k → (l.getD j hd0).id ≠ id) ∧ wr = w) (fun kv _ => n - (intOf kv).toNat)
  case atStart => exact ⟨0, Nat.zero_le _, rfl, fun j hj => absurd hj (by omega), rfl⟩
  case round =>
    obtain ⟨k, hk, rfl, hpre, rfl⟩ := hrel
    have HP := Lib.hid hpre
    clear hpre
    by_cases hlt : k < n
    · obtain ⟨b, off, A2, m2, c2, rfl, _, c0, _, _, _, _⟩ := HR.out.one hlt
      obtain ⟨y, hy⟩ : ∃ y, (l.getD k hd0).id = y := ⟨_, rfl⟩
      rw [hy] at c0
      have HY := Lib.hid hy
      clear hy
      by_cases h : y = id
      · have d0 : (y == id) = true := by simpa using h
        have HF : Hid (FirstAtH l id (k : Int)) := Lib.hid (.inr ⟨k, by rw [HL.out]; exact hlt, rfl, by rw [HY.out]; exact h, HP.out⟩)
        clear h
        go_wp2
        go_ret
        exact ⟨⟨_, rfl, HF.out⟩, by trivial⟩
      · have d0 : (y == id) = false := by simpa using h
        have HN : Hid (∀ j, j < k + 1 → (l.getD j hd0).id ≠ id) := Lib.hid (fun j hj => by
          by_cases e : j = k
          · subst e; rw [HY.out]; exact h
          · exact HP.out j (by omega))
        clear h
        go_wp2
        go_roundw
        case rel => exact ⟨k + 1, by omega, by go_num, HN.out, by trivial⟩
        case measure => simp [intOf]; omega
    · have hkn : k = n := by omega
      have HF : Hid (FirstAtH l id (-1)) := Lib.hid (.inl ⟨rfl, fun j hj => HP.out j (by rw [hkn, ← HL.out]; exact hj)⟩)
      go_wp2
      go_ret
      exact ⟨⟨_, rfl, HF.out⟩, by trivial⟩

end Go.Proofs.YtpoalgkgomljmaaGreatDoor

namespace Go.Proofs.YtpoalgkgomljmaaGreatDoor
open Go.RowKit
open Go.Shelf

theorem inB_eq (xs : List Int) (v : Int) : xs.contains v = inB xs v := rfl
theorem pickN_yes {p : Int → Bool} {k : Nat} (h : p (k : Int) = true) : pickN p 0 (k + 1) = pickN p 0 k ++ [(k : Int)] := by
  rw [pickN_snoc, Nat.zero_add, if_pos h]
theorem pickN_no {p : Int → Bool} {k : Nat} (h : p (k : Int) = false) : pickN p 0 (k + 1) = pickN p 0 k := by
  rw [pickN_snoc, Nat.zero_add, h]; simp

/-- where the loop stands -/
def WhichRel (p : Int → Bool) (w : World) (v i : Value) (wr : World) : Prop :=
  ∃ k : Nat, k ≤ 256 ∧ i = .int .i64 k ∧ wr.ownsRow w.heap.size 3 1 v (pickN p 0 k).length ((pickN p 0 k).map (Value.int .i64)) ∧ Below w.heap.size w wr

theorem which_step {p : Int → Bool} {w wr w1 : World} {v v' : Value} {k : Nat} {o : Obj} (hk : k < 256) (hp : p (k : Int) = true) (hb : Below w.heap.size w wr)
    (hown : wr.ownsRow w.heap.size 3 1 v (pickN p 0 k).length ((pickN p 0 k).map (Value.int .i64)))
    (hown' : w1.ownsRow w.heap.size 3 1 v' ((pickN p 0 k).length + 1) ((pickN p 0 k).map (Value.int .i64) ++ [.int .i64 (k : Int)])) (hgrow : (wr.alloc o).grownBy w1 v.ownBlock) :
    WhichRel p w v' (.int .i64 ((k : Int) + 1)) w1 := by
  refine ⟨k + 1, by omega, by go_num, ?_, (hb.alloc hb.size o).grown hgrow (by have := hb.size; simp; omega) (fun j hj => (hown.lt j hj).1)⟩
  rw [pickN_yes hp, List.length_append, List.map_append]
  exact hown'

set_option maxRecDepth 100000 in
set_option maxHeartbeats 4000000 in
theorem which_0 (A A' : Option Addr) (n c n' c' : Nat) (xs ys : List Int) (w : World) (hr : RI w w.heap.size A n xs) (hr' : RI w w.heap.size A' n' ys) (hn : n ≤ maxLen) (hn' : n' ≤ maxLen) (hx : rightB xs = true) (hy : rightB ys = true) :
    Calls Tryz.prog 64 #[.slice A n c, .slice A' n' c', .int .i64 0] w (IPost (whichL 0 xs ys) w) := by
  have HX := Lib.hid hx
  have HY := Lib.hid hy
  have HL : Hid (whichL 0 xs ys = pickL (keeps 0 xs ys)) := Lib.hid (by unfold whichL; rw [hx, hy]; rfl)
  clear hx hy
  obtain ⟨i0, hi, hz0, hz1, hz2⟩ := info_parts int_info
  go_enter Tryz.func64, Tryz.ntmps64
  go_wp2_with fail
  refine (refRight_any _ _ _ xs _ _ hr hn).mono ?_
  rintro e w1 ⟨rfl, q1, rfl⟩
  rw [HX.out]
  go_wp2_with fail
  refine (refRight_any _ _ _ ys _ _ (hr'.drewN q1) hn').mono ?_
  rintro e w1 ⟨rfl, q2, rfl⟩
  rw [HY.out]
  go_wp2
  go_loopw [7, 8] (fun v i wr => WhichRel (keeps 0 xs ys) w v i wr) (fun _ i _ => 256 - (intOf i).toNat)
  case atStart => exact ⟨0, by omega, rfl, World.ownsRow_nil _ _ _ _, ⟨rfl, rfl, rfl, Nat.le_refl _, fun _ _ => rfl⟩⟩
  case round =>
    obtain ⟨k, hk, rfl, hown, hb⟩ := hrel
    by_cases hlt : k < 256
    · have hd : decide ((k : Int) < 256) = true := by simp; omega
      have hlen := pickN_len (keeps 0 xs ys) k
      have hr1 := Lib.hid (hr.below hb)
      have hr2 := Lib.hid (hr'.below hb)
      have HK : Hid (keeps 0 xs ys (k : Int) = (inB xs k || inB ys k)) := Lib.hid rfl
      clear hr hr'
      go_wp2_with fail
      refine (in_any _ _ _ xs _ _ _ hr1.out hn).mono ?_
      rintro e w1 ⟨rfl, rfl⟩
      go_wp2_with fail
      refine (in_any _ _ _ ys _ _ _ hr2.out hn').mono ?_
      rintro e w1 ⟨rfl, rfl⟩
      have hstep := Lib.hid (fun hp w1 v' o a b => @which_step (keeps 0 xs ys) w wr w1 _ v' k o hlt hp hb hown a b)
      have hskip : Hid (keeps 0 xs ys (k : Int) = false → pickN (keeps 0 xs ys) 0 (k + 1) = pickN (keeps 0 xs ys) 0 k) := Lib.hid pickN_no
      generalize inB xs k = x at *
      generalize inB ys k = y at *
      generalize keeps 0 xs ys (k : Int) = z at *
      generalize pickN (keeps 0 xs ys) 0 k = L at *
      rcases x with _ | _ <;> rcases y with _ | _
      · have hz : z = false := HK.out
        subst hz
        have hp := Lib.hid (hskip.out rfl)
        clear hskip hstep
        go_wp2
        go_roundw
        case rel => exact ⟨k + 1, by omega, by go_num, by rw [hp.out]; exact hown, hb⟩
        case measure => simp [intOf]; omega
      · have hz : z = true := HK.out
        subst hz
        go_wp2_with (at_builtin; refine wpList_append_own _ rfl (.tmp 58) (.tmp 60) 23 rfl w.heap.size 3 i0 (.int .i64 0) 1 8 Tryz.underlying23 hi hz0 hz1 hz2 rfl (by decide) _ _ _ rfl (hown.alloc _) ⟨wr.heap.size, 0, none⟩ 1 1 [.int .i64 (k : Int)] rfl rfl (by intro j u hj; match j, hj with | 0, hj => simp at hj; subst hj; simp [Addr.add]) (by intro u hu; simp at hu; subst hu; rfl) (by unfold maxLen; omega) (by omega) (by have := hb.size; simp; omega) ?_; intro v' w2 hown' hgrow _; refine Hid.out ?_)
        refine Lib.hid ?_
        have R := Lib.hid (hstep.out (by first | rfl | trivial) w2 v' _ hown' hgrow)
        clear hown' hgrow hskip hstep
        go_wp2
        go_roundw
        case rel => exact R.out
        case measure => simp [intOf]; omega
      · have hz : z = true := HK.out
        subst hz
        go_wp2_with (at_builtin; refine wpList_append_own _ rfl (.tmp 58) (.tmp 60) 23 rfl w.heap.size 3 i0 (.int .i64 0) 1 8 Tryz.underlying23 hi hz0 hz1 hz2 rfl (by decide) _ _ _ rfl (hown.alloc _) ⟨wr.heap.size, 0, none⟩ 1 1 [.int .i64 (k : Int)] rfl rfl (by intro j u hj; match j, hj with | 0, hj => simp at hj; subst hj; simp [Addr.add]) (by intro u hu; simp at hu; subst hu; rfl) (by unfold maxLen; omega) (by omega) (by have := hb.size; simp; omega) ?_; intro v' w2 hown' hgrow _; refine Hid.out ?_)
        refine Lib.hid ?_
        have R := Lib.hid (hstep.out (by first | rfl | trivial) w2 v' _ hown' hgrow)
        clear hown' hgrow hskip hstep
        go_wp2
        go_roundw
        case rel => exact R.out
        case measure => simp [intOf]; omega
      · have hz : z = true := HK.out
        subst hz
        go_wp2_with (at_builtin; refine wpList_append_own _ rfl (.tmp 58) (.tmp 60) 23 rfl w.heap.size 3 i0 (.int .i64 0) 1 8 Tryz.underlying23 hi hz0 hz1 hz2 rfl (by decide) _ _ _ rfl (hown.alloc _) ⟨wr.heap.size, 0, none⟩ 1 1 [.int .i64 (k : Int)] rfl rfl (by intro j u hj; match j, hj with | 0, hj => simp at hj; subst hj; simp [Addr.add]) (by intro u hu; simp at hu; subst hu; rfl) (by unfold maxLen; omega) (by omega) (by have := hb.size; simp; omega) ?_; intro v' w2 hown' hgrow _; refine Hid.out ?_)
        refine Lib.hid ?_
        have R := Lib.hid (hstep.out (by first | rfl | trivial) w2 v' _ hown' hgrow)
        clear hown' hgrow hskip hstep
        go_wp2
        go_roundw
        case rel => exact R.out
        case measure => simp [intOf]; omega
    · have hkn : k = 256 := by omega
      subst hkn
      go_wp2
      go_ret
      rw [HL.out]
      exact ipost_own hown hb

set_option maxRecDepth 100000 in
set_option maxHeartbeats 4000000 in
theorem which_1 (A A' : Option Addr) (n c n' c' : Nat) (xs ys : List Int) (w : World) (hr : RI w w.heap.size A n xs) (hr' : RI w w.heap.size A' n' ys) (hn : n ≤ maxLen) (hn' : n' ≤ maxLen) (hx : rightB xs = true) (hy : rightB ys = true) :
    Calls Tryz.prog 64 #[.slice A n c, .slice A' n' c', .int .i64 1] w (IPost (whichL 1 xs ys) w) := by
  have HX := Lib.hid hx
  have HY := Lib.hid hy
  have HL : Hid (whichL 1 xs ys = pickL (keeps 1 xs ys)) := Lib.hid (by unfold whichL; rw [hx, hy]; rfl)
  clear hx hy
  obtain ⟨i0, hi, hz0, hz1, hz2⟩ := info_parts int_info
  go_enter Tryz.func64, Tryz.ntmps64
  go_wp2_with fail
  refine (refRight_any _ _ _ xs _ _ hr hn).mono ?_
  rintro e w1 ⟨rfl, q1, rfl⟩
  rw [HX.out]
  go_wp2_with fail
  refine (refRight_any _ _ _ ys _ _ (hr'.drewN q1) hn').mono ?_
  rintro e w1 ⟨rfl, q2, rfl⟩
  rw [HY.out]
  go_wp2
  go_loopw [7, 8] (fun v i wr => WhichRel (keeps 1 xs ys) w v i wr) (fun _ i _ => 256 - (intOf i).toNat)
  case atStart => exact ⟨0, by omega, rfl, World.ownsRow_nil _ _ _ _, ⟨rfl, rfl, rfl, Nat.le_refl _, fun _ _ => rfl⟩⟩
  case round =>
    obtain ⟨k, hk, rfl, hown, hb⟩ := hrel
    by_cases hlt : k < 256
    · have hd : decide ((k : Int) < 256) = true := by simp; omega
      have hlen := pickN_len (keeps 1 xs ys) k
      have hr1 := Lib.hid (hr.below hb)
      have hr2 := Lib.hid (hr'.below hb)
      have HK : Hid (keeps 1 xs ys (k : Int) = (inB xs k && inB ys k)) := Lib.hid rfl
      clear hr hr'
      go_wp2_with fail
      refine (in_any _ _ _ xs _ _ _ hr1.out hn).mono ?_
      rintro e w1 ⟨rfl, rfl⟩
      go_wp2_with fail
      refine (in_any _ _ _ ys _ _ _ hr2.out hn').mono ?_
      rintro e w1 ⟨rfl, rfl⟩
      have hstep := Lib.hid (fun hp w1 v' o a b => @which_step (keeps 1 xs ys) w wr w1 _ v' k o hlt hp hb hown a b)
      have hskip : Hid (keeps 1 xs ys (k : Int) = false → pickN (keeps 1 xs ys) 0 (k + 1) = pickN (keeps 1 xs ys) 0 k) := Lib.hid pickN_no
      generalize inB xs k = x at *
      generalize inB ys k = y at *
      generalize keeps 1 xs ys (k : Int) = z at *
      generalize pickN (keeps 1 xs ys) 0 k = L at *
      rcases x with _ | _ <;> rcases y with _ | _
      · have hz : z = false := HK.out
        subst hz
        have hp := Lib.hid (hskip.out rfl)
        clear hskip hstep
        go_wp2
        go_roundw
        case rel => exact ⟨k + 1, by omega, by go_num, by rw [hp.out]; exact hown, hb⟩
        case measure => simp [intOf]; omega
      · have hz : z = false := HK.out
        subst hz
        have hp := Lib.hid (hskip.out rfl)
        clear hskip hstep
        go_wp2
        go_roundw
        case rel => exact ⟨k + 1, by omega, by go_num, by rw [hp.out]; exact hown, hb⟩
        case measure => simp [intOf]; omega
      · have hz : z = false := HK.out
        subst hz
        have hp := Lib.hid (hskip.out rfl)
        clear hskip hstep
        go_wp2
        go_roundw
        case rel => exact ⟨k + 1, by omega, by go_num, by rw [hp.out]; exact hown, hb⟩
        case measure => simp [intOf]; omega
      · have hz : z = true := HK.out
        subst hz
        go_wp2_with (at_builtin; refine wpList_append_own _ rfl (.tmp 58) (.tmp 60) 23 rfl w.heap.size 3 i0 (.int .i64 0) 1 8 Tryz.underlying23 hi hz0 hz1 hz2 rfl (by decide) _ _ _ rfl (hown.alloc _) ⟨wr.heap.size, 0, none⟩ 1 1 [.int .i64 (k : Int)] rfl rfl (by intro j u hj; match j, hj with | 0, hj => simp at hj; subst hj; simp [Addr.add]) (by intro u hu; simp at hu; subst hu; rfl) (by unfold maxLen; omega) (by omega) (by have := hb.size; simp; omega) ?_; intro v' w2 hown' hgrow _; refine Hid.out ?_)
        refine Lib.hid ?_
        have R := Lib.hid (hstep.out (by first | rfl | trivial) w2 v' _ hown' hgrow)
        clear hown' hgrow hskip hstep
        go_wp2
        go_roundw
        case rel => exact R.out
        case measure => simp [intOf]; omega
    · have hkn : k = 256 := by omega
      subst hkn
      go_wp2
      go_ret
      rw [HL.out]
      exact ipost_own hown hb

set_option maxRecDepth 100000 in
set_option maxHeartbeats 4000000 in
theorem which_2 (A A' : Option Addr) (n c n' c' : Nat) (xs ys : List Int) (w : World) (hr : RI w w.heap.size A n xs) (hr' : RI w w.heap.size A' n' ys) (hn : n ≤ maxLen) (hn' : n' ≤ maxLen) (hx : rightB xs = true) (hy : rightB ys = true) :
    Calls Tryz.prog 64 #[.slice A n c, .slice A' n' c', .int .i64 2] w (IPost (whichL 2 xs ys) w) := by
  have HX := Lib.hid hx
  have HY := Lib.hid hy
  have HL : Hid (whichL 2 xs ys = pickL (keeps 2 xs ys)) := Lib.hid (by unfold whichL; rw [hx, hy]; rfl)
  clear hx hy
  obtain ⟨i0, hi, hz0, hz1, hz2⟩ := info_parts int_info
  go_enter Tryz.func64, Tryz.ntmps64
  go_wp2_with fail
  refine (refRight_any _ _ _ xs _ _ hr hn).mono ?_
  rintro e w1 ⟨rfl, q1, rfl⟩
  rw [HX.out]
  go_wp2_with fail
  refine (refRight_any _ _ _ ys _ _ (hr'.drewN q1) hn').mono ?_
  rintro e w1 ⟨rfl, q2, rfl⟩
  rw [HY.out]
  go_wp2
  go_loopw [7, 8] (fun v i wr => WhichRel (keeps 2 xs ys) w v i wr) (fun _ i _ => 256 - (intOf i).toNat)
  case atStart => exact ⟨0, by omega, rfl, World.ownsRow_nil _ _ _ _, ⟨rfl, rfl, rfl, Nat.le_refl _, fun _ _ => rfl⟩⟩
  case round =>
    obtain ⟨k, hk, rfl, hown, hb⟩ := hrel
    by_cases hlt : k < 256
    · have hd : decide ((k : Int) < 256) = true := by simp; omega
      have hlen := pickN_len (keeps 2 xs ys) k
      have hr1 := Lib.hid (hr.below hb)
      have hr2 := Lib.hid (hr'.below hb)
      have HK : Hid (keeps 2 xs ys (k : Int) = (inB xs k && !inB ys k)) := Lib.hid rfl
      clear hr hr'
      go_wp2_with fail
      refine (in_any _ _ _ xs _ _ _ hr1.out hn).mono ?_
      rintro e w1 ⟨rfl, rfl⟩
      go_wp2_with fail
      refine (in_any _ _ _ ys _ _ _ hr2.out hn').mono ?_
      rintro e w1 ⟨rfl, rfl⟩
      have hstep := Lib.hid (fun hp w1 v' o a b => @which_step (keeps 2 xs ys) w wr w1 _ v' k o hlt hp hb hown a b)
      have hskip : Hid (keeps 2 xs ys (k : Int) = false → pickN (keeps 2 xs ys) 0 (k + 1) = pickN (keeps 2 xs ys) 0 k) := Lib.hid pickN_no
      generalize inB xs k = x at *
      generalize inB ys k = y at *
      generalize keeps 2 xs ys (k : Int) = z at *
      generalize pickN (keeps 2 xs ys) 0 k = L at *
      rcases x with _ | _ <;> rcases y with _ | _
      · have hz : z = false := HK.out
        subst hz
        have hp := Lib.hid (hskip.out rfl)
        clear hskip hstep
        go_wp2
        go_roundw
        case rel => exact ⟨k + 1, by omega, by go_num, by rw [hp.out]; exact hown, hb⟩
        case measure => simp [intOf]; omega
      · have hz : z = false := HK.out
        subst hz
        have hp := Lib.hid (hskip.out rfl)
        clear hskip hstep
        go_wp2
        go_roundw
        case rel => exact ⟨k + 1, by omega, by go_num, by rw [hp.out]; exact hown, hb⟩
        case measure => simp [intOf]; omega
      · have hz : z = true := HK.out
        subst hz
        go_wp2_with (at_builtin; refine wpList_append_own _ rfl (.tmp 58) (.tmp 60) 23 rfl w.heap.size 3 i0 (.int .i64 0) 1 8 Tryz.underlying23 hi hz0 hz1 hz2 rfl (by decide) _ _ _ rfl (hown.alloc _) ⟨wr.heap.size, 0, none⟩ 1 1 [.int .i64 (k : Int)] rfl rfl (by intro j u hj; match j, hj with | 0, hj => simp at hj; subst hj; simp [Addr.add]) (by intro u hu; simp at hu; subst hu; rfl) (by unfold maxLen; omega) (by omega) (by have := hb.size; simp; omega) ?_; intro v' w2 hown' hgrow _; refine Hid.out ?_)
        refine Lib.hid ?_
        have R := Lib.hid (hstep.out (by first | rfl | trivial) w2 v' _ hown' hgrow)
        clear hown' hgrow hskip hstep
        go_wp2
        go_roundw
        case rel => exact R.out
        case measure => simp [intOf]; omega
      · have hz : z = false := HK.out
        subst hz
        have hp := Lib.hid (hskip.out rfl)
        clear hskip hstep
        go_wp2
        go_roundw
        case rel => exact ⟨k + 1, by omega, by go_num, by rw [hp.out]; exact hown, hb⟩
        case measure => simp [intOf]; omega
    · have hkn : k = 256 := by omega
      subst hkn
      go_wp2
      go_ret
      rw [HL.out]
      exact ipost_own hown hb

theorem which_no (how : Int) (A A' : Option Addr) (n c n' c' : Nat) (xs ys : List Int) (w : World) (hr : RI w w.heap.size A n xs) (hr' : RI w w.heap.size A' n' ys) (hn : n ≤ maxLen) (hn' : n' ≤ maxLen) (hno : (rightB xs && rightB ys) = false) :
    Calls Tryz.prog 64 #[.slice A n c, .slice A' n' c', .int .i64 how] w (IPost [] w) := by
  have HN := Lib.hid hno
  clear hno
  go_enter Tryz.func64, Tryz.ntmps64
  go_wp2_with fail
  refine (refRight_any _ _ _ xs _ _ hr hn).mono ?_
  rintro e w1 ⟨rfl, q1, rfl⟩
  cases hx : rightB xs with
  | false =>
    clear hx
    go_wp2
    go_ret
    exact ipost_nil ⟨rfl, rfl, rfl, Nat.le_refl _, fun _ _ => rfl⟩
  | true =>
    have hy : Hid (rightB ys = false) := Lib.hid (by have := HN.out; rw [hx] at this; simpa using this)
    clear hx
    go_wp2_with fail
    refine (refRight_any _ _ _ ys _ _ (hr'.drewN q1) hn').mono ?_
    rintro e w1 ⟨rfl, q2, rfl⟩
    rw [hy.out]
    go_wp2
    go_ret
    exact ipost_nil ⟨rfl, rfl, rfl, Nat.le_refl _, fun _ _ => rfl⟩

theorem which_post (how : Nat) (h : Int) (hhow : (how = 0 ∧ h = 0) ∨ (how = 1 ∧ h = 1) ∨ (how = 2 ∧ h = 2)) (A A' : Option Addr) (n c n' c' : Nat) (xs ys : List Int) (w : World) (hr : RI w w.heap.size A n xs) (hr' : RI w w.heap.size A' n' ys) (hn : n ≤ maxLen) (hn' : n' ≤ maxLen) :
    Calls Tryz.prog 64 #[.slice A n c, .slice A' n' c', .int .i64 h] w (IPost (whichL how xs ys) w) := by
  by_cases hxy : (rightB xs && rightB ys) = true
  · have hxy' : rightB xs = true ∧ rightB ys = true := by simpa using hxy
    rcases hhow with ⟨rfl, rfl⟩ | ⟨rfl, rfl⟩ | ⟨rfl, rfl⟩
    · exact which_0 A A' n c n' c' xs ys w hr hr' hn hn' hxy'.1 hxy'.2
    · exact which_1 A A' n c n' c' xs ys w hr hr' hn hn' hxy'.1 hxy'.2
    · exact which_2 A A' n c n' c' xs ys w hr hr' hn hn' hxy'.1 hxy'.2
  · rw [whichL_wrong (by simpa using hxy)]
    exact which_no h A A' n c n' c' xs ys w hr hr' hn hn' (by simpa using hxy)
theorem which_any (how : Nat) (h : Int) (hhow : (how = 0 ∧ h = 0) ∨ (how = 1 ∧ h = 1) ∨ (how = 2 ∧ h = 2)) (A A' : Option Addr) (n c n' c' : Nat) (xs ys : List Int) (w : World) (hr : RI w w.heap.size A n xs) (hr' : RI w w.heap.size A' n' ys) (hn : n ≤ maxLen) (hn' : n' ≤ maxLen) :
    Calls Tryz.prog 64 #[.slice A n c, .slice A' n' c', .int .i64 h] w (Gives (whichL how xs ys) w) := (which_post how h hhow A A' n c n' c' xs ys w hr hr' hn hn').mono fun _ _ h => h.gives

end Go.Proofs.YtpoalgkgomljmaaGreatDoor

namespace Go.Proofs.YtpoalgkgomljmaaGreatDoor
open Go.RowKit

theorem refRightT_b {A : Option Addr} {n c : Nat} {l : Tb} {w : World} {v : Bool} (hr : RT w w.heap.size A n l) (hn : n ≤ maxLen) (h : rightT l = v) :
    Calls Tryz.prog 30 #[.slice A n c] w fun e w' => e = .returned (.bool v) ∧ Below w.heap.size w w' := by
  subst h; exact refRightT_any A n c l w hr hn

def shortT (l : Tb) : Bool := decide (l.length ≤ 30 ∧ ∀ j, j < l.length → (l.getD j hd0).things.length ≤ 60)
set_option maxRecDepth 100000 in
set_option maxHeartbeats 8000000 in
theorem refShortT_any (A : Option Addr) (n c : Nat) (l : Tb) (w : World) (hr : RT w w.heap.size A n l) (hn : n ≤ maxLen) :
    Calls Tryz.prog 28 #[.slice A n c] w fun e w' => e = .returned (.bool (shortT l)) ∧ w = w' := by
  have HR := Lib.hid hr
  have HL := Lib.hid hr.len
  obtain ⟨v, hv⟩ : ∃ v, shortT l = v := ⟨_, rfl⟩
  have HV0 := Lib.hid hv
  rw [hv]
  unfold maxLen at hn
  clear hr hv
  by_cases h30 : 30 < n
  · have d0 : decide (30 < n) = true := decide_eq_true h30
    have HV : Hid (v = false) := Lib.hid (by rw [← HV0.out]; exact decide_eq_false (fun h => by have := h.1; rw [HL.out] at this; omega))
    go_enter Tryz.func28, Tryz.ntmps28
    go_wp2
    go_ret
    exact ⟨by rw [HV.out]; rfl, rfl⟩
  · have d0 : decide (30 < n) = false := decide_eq_false h30
    go_enter Tryz.func28, Tryz.ntmps28
    go_wp2
    go_loopw [3] (fun kv wr => ∃ k : Nat, k ≤ n ∧ kv = .int .i64 k ∧ (∀ j, j < k → (l.getD j hd0).things.length ≤ 60) ∧ wr = w) (fun kv _ => n - (intOf kv).toNat)
    case atStart => exact ⟨0, Nat.zero_le _, rfl, fun j hj => absurd hj (by omega), rfl⟩
    case round =>
      obtain ⟨k, hk, rfl, hpre, rfl⟩ := hrel
      have HP := Lib.hid hpre
      clear hpre
      by_cases hlt : k < n
      · obtain ⟨b, off, A2, m2, c2, rfl, _, _, c1, _, _, hx⟩ := HR.out.one hlt
        have hm := hx.reads.1
        have hm2 := hx.few
        clear hx
        unfold maxLen at hm2
        by_cases h : 60 < m2
        · have d1 : decide (60 < m2) = true := decide_eq_true h
          have HV : Hid (v = false) := Lib.hid (by rw [← HV0.out]; exact decide_eq_false (fun h' => by have := h'.2 k (by rw [HL.out]; exact hlt); omega))
          clear hm
          go_wp2
          go_ret
          exact ⟨by rw [HV.out]; rfl, by trivial⟩
        · have d1 : decide (60 < m2) = false := decide_eq_false h
          have HN : Hid (∀ j, j < k + 1 → (l.getD j hd0).things.length ≤ 60) := Lib.hid (fun j hj => by
            by_cases e : j = k
            · subst e; omega
            · exact HP.out j (by omega))
          clear hm
          go_wp2
          go_roundw
          case rel => exact ⟨k + 1, by omega, by go_num, HN.out, by trivial⟩
          case measure => simp [intOf]; omega
      · have hkn : k = n := by omega
        have HV : Hid (v = true) := Lib.hid (by rw [← HV0.out]; exact decide_eq_true ⟨by rw [HL.out]; omega, fun j hj => HP.out j (by rw [hkn, ← HL.out]; exact hj)⟩)
        go_wp2
        go_ret
        exact ⟨by rw [HV.out]; rfl, by trivial⟩

end Go.Proofs.YtpoalgkgomljmaaGreatDoor

namespace Go.Proofs.YtpoalgkgomljmaaGreatDoor
open Go.RowKit

section
variable {α : Type} {E : Elem α} {C : Nat} {t : TypeId} {w w2 wr : World} {v : Value} {xs : List α}
theorem ON.app (hE : Steady E) (h : ON E C t w v xs wr) {ys : List α} {vs : List Value} {o : Obj} {fl : List Value} {g cap : Nat}
    (hfl : wr.ownsRow w.heap.size t C v xs.length fl) (hx : ∀ j y, ys[j]? = some y → E wr (fun b => b < wr.heap.size ∧ v.ownBlock ≠ some b) y ((vs.drop (j * C)).take C)) (_ : vs.length = ys.length * C)
    (hold : ∀ j y, xs[j]? = some y → E wr (fun b => b < wr.heap.size ∧ v.ownBlock ≠ some b) y ((fl.drop (j * C)).take C))
    (hown' : w2.ownsRow w.heap.size t C (.slice (some ⟨g, 0, none⟩) (xs.length + ys.length) cap) (xs.length + ys.length) (fl ++ vs)) (hgrow : (wr.alloc o).grownBy w2 v.ownBlock)
    (hat : v.ownBlock = some g ∨ wr.heap.size ≤ g) : ON E C t w (.slice (some ⟨g, 0, none⟩) (xs.length + ys.length) cap) (xs ++ ys) w2 := by
  have hB := h.below
  have hsz : wr.heap.size ≤ w2.heap.size := by have := hgrow.size; simp at this; omega
  have hkeep : ∀ b, (b < wr.heap.size ∧ v.ownBlock ≠ some b) → w2.heap[b]? = wr.heap[b]? := fun b hb =>
    (hgrow.block b (by simp; omega) (fun e => hb.2 e.symm)).trans (Below.heap_alloc wr o b hb.1)
  have hok : ∀ b, (b < wr.heap.size ∧ v.ownBlock ≠ some b) → (b < w2.heap.size ∧ (Value.slice (some ⟨g, 0, none⟩) (xs.length + ys.length) cap).ownBlock ≠ some b) := fun b hb =>
    ⟨by omega, fun e => by
      have e' : g = b := by simpa [Value.ownBlock] using e
      subst e'
      rcases hat with h' | h'
      · exact hb.2 h'
      · omega⟩
  refine ⟨fl ++ vs, by rw [List.length_append]; exact hown', (hB.alloc hB.size o).grown hgrow (by have := hB.size; simp; omega) (fun j hj => (hfl.lt j hj).1), fun j y hy => ?_⟩
  have hfll := hfl.1
  rcases Nat.lt_or_ge j xs.length with hj | hj
  · rw [List.getElem?_append_left hj] at hy
    have e := hE.keep (hold j y hy) hkeep hok
    have hlen : j * C + C ≤ fl.length := by rw [hfll, ← Nat.succ_mul]; exact Nat.mul_le_mul_right C hj
    rw [List.drop_append_of_le_length (by omega), List.take_append_of_le_length (by rw [List.length_drop]; omega)]
    exact e
  · rw [List.getElem?_append_right hj] at hy
    have e := hE.keep (hx (j - xs.length) y hy) hkeep hok
    have hd : (fl ++ vs).drop (j * C) = vs.drop ((j - xs.length) * C) := by
      rw [List.drop_append, List.drop_eq_nil_of_le (by rw [hfll]; exact Nat.mul_le_mul_right C hj), List.nil_append, hfll, ← Nat.sub_mul]
    rw [hd]
    exact e
/-- 'out = append(out, x, y ..)' of an owned row of elements: they have been laid into a block of their own -/
theorem wpList_append_ONs {P : Program} {ops : Array Oper} {rest : List Oper} {o : Oper} {a : Act} {Q : Exit → Act → World → Prop} (hgd : o.guard = none) (s x : Operand) (ty : TypeId)
    (ho : o.op = .call { callee := .builtin .append, args := #[s, x], argTypes := #[ty, ty] })
    (hE : Steady E) (h : ON E C t w v xs wr) (i : TypeInfo) (z : Value) (bytes : Nat) (ht : P.underlying ty = some (.slice t)) (hi : P.info? t = some i) (hz : i.zero = some z)
    (hsize : i.size = C) (hby : i.bytes = bytes) (hzs : z.cells.size = C) (hsz : 0 < C)
    (hs : a.eval s = v) (ys : List α) (m : Nat) (hm : ys.length = m) (hm0 : 0 < m) (cs : Array Value) (hx : a.eval x = .slice (some ⟨wr.heap.size, 0, none⟩) m m) (hl : cs.toList.length = m * C) (h1 : ∀ u ∈ cs.toList, u.oneCell' = true)
    (he : ∀ j y, ys[j]? = some y → E wr (fun b => b < wr.heap.size ∧ v.ownBlock ≠ some b) y ((cs.toList.drop (j * C)).take C))
    (h63 : xs.length + m ≤ maxLen) (hbytes : (xs.length + m) * bytes ≤ 140737488355328)
    (hk : ∀ v' w', ON E C t w v' (xs ++ ys) w' → wpList P ops Q rest (a.put o.dst v') w') : wpList P ops Q (o :: rest) a (wr.alloc (.cells cs t)) := by
  subst hm
  have hB := h.below
  obtain ⟨fl, h2, _, h4⟩ := id h
  refine wpList_append_lies (wr.alloc (.cells cs t)) hgd s x ty ho w.heap.size t i z C bytes ht hi hz hsize hby hzs hsz v xs.length fl hs (h2.alloc _) ⟨wr.heap.size, 0, none⟩ ys.length ys.length cs.toList hx hl
    (World.news_of_block (cs := cs) (t := t) (fr := (0, 0)) (heap_alloc_new wr _)) h1 hm0 h63 hbytes (by have := hB.size; simp; omega) _ rfl ?_
  intro g cap w2 hown' hgrow hat hlt
  exact hk _ _ (h.app hE h2 he hl h4 hown' hgrow (hat.imp id (fun e => by rw [e]; simp)))
end

end Go.Proofs.YtpoalgkgomljmaaGreatDoor

namespace Go.Proofs.YtpoalgkgomljmaaGreatDoor
open Go.RowKit

/-- all blocks but g are as they were -/
structure But (g : Nat) (w w' : World) : Prop where
  os : w'.os = w.os
  tape : w'.tape = w.tape
  output : w'.output = w.output
  size : w.heap.size ≤ w'.heap.size
  block : ∀ b, b < w.heap.size → b ≠ g → w'.heap[b]? = w.heap[b]?
section
variable {g : Nat} {w w1 w' : World}
theorem But.refl (g : Nat) (w : World) : But g w w := ⟨rfl, rfl, rfl, Nat.le_refl _, fun _ _ _ => rfl⟩
theorem But.trans (h : But g w w1) (k : But g w1 w') : But g w w' :=
  ⟨k.os.trans h.os, k.tape.trans h.tape, k.output.trans h.output, Nat.le_trans h.size k.size, fun b h1 h2 => (k.block b (Nat.lt_of_lt_of_le h1 h.size) h2).trans (h.block b h1 h2)⟩
theorem But.of (g : Nat) (h : Below w.heap.size w w') : But g w w' := ⟨h.os, h.tape, h.output, h.size, fun b h1 _ => h.block b h1⟩
theorem But.next (h : But g w w1) (k : Below w1.heap.size w1 w') : But g w w' := h.trans (But.of g k)
theorem But.below {B : Nat} (h : But g w w') (hB : B ≤ g) (hg : g < w.heap.size) : Below B w w' := ⟨h.os, h.tape, h.output, h.size, fun b hb => h.block b (by omega) (by omega)⟩
theorem But.set (h : But g w w1) (j : Nat) (u : Value) : But g w (w1.setCell ⟨g, j, none⟩ u) :=
  h.trans ⟨rfl, rfl, rfl, by simp [World.setCell], fun b _ hb => Below.heap_setCell _ _ _ _ hb⟩
theorem But.drewN (h : But g w w1) (q : Nat) : But g w (w1.drewN q) := h.next (bel_drew w1 q)
end

end Go.Proofs.YtpoalgkgomljmaaGreatDoor

namespace Go.Proofs.YtpoalgkgomljmaaGreatDoor
open Go.RowKit

section
variable {α : Type} {E : Elem α} {t : TypeId} {w wr w1 : World} {g n cap : Nat} {xs : List α}
/-- the cells of a list of elements, one behind the other -/
theorem flat_of {C : Nat} {ok : Nat → Prop} {b : Nat} : ∀ (xs : List α) (off : Nat), (∀ j x, xs[j]? = some x → ∃ vs : List Value, vs.length = C ∧ (∀ i v, vs[i]? = some v → w.cell? ⟨b, off + (j * C + i), none⟩ = some v) ∧ E w ok x vs) →
    ∃ fl : List Value, fl.length = xs.length * C ∧ (∀ j u, fl[j]? = some u → w.cell? ⟨b, off + j, none⟩ = some u) ∧ ∀ j x, xs[j]? = some x → E w ok x ((fl.drop (j * C)).take C)
  | [], off, _ => ⟨[], by simp, fun j u h => by simp at h, fun j x h => by simp at h⟩
  | x :: r, off, h => by
    obtain ⟨vs, h1, h2, h3⟩ := h 0 x rfl
    obtain ⟨fl, k1, k2, k3⟩ := flat_of (C := C) r (off + C) (fun j y hy => by
      obtain ⟨us, u1, u2, u3⟩ := h (j + 1) y (by simpa using hy)
      refine ⟨us, u1, fun i v hv => ?_, u3⟩
      have := u2 i v hv
      rw [show off + ((j + 1) * C + i) = off + C + (j * C + i) by rw [Nat.add_mul, Nat.one_mul]; omega] at this
      exact this)
    refine ⟨vs ++ fl, by rw [List.length_append, h1, k1, List.length_cons, Nat.add_mul, Nat.one_mul]; omega, fun j u hu => ?_, fun j y hy => ?_⟩
    · by_cases hj : j < vs.length
      · rw [List.getElem?_append_left hj] at hu
        have := h2 j u hu
        rwa [show off + (0 * C + j) = off + j by omega] at this
      · rw [List.getElem?_append_right (by omega)] at hu
        have := k2 _ u hu
        rwa [show off + C + (j - vs.length) = off + j by omega] at this
    · cases j with
      | zero =>
        have : x = y := by simpa using hy
        subst this
        rw [Nat.zero_mul, List.drop_zero, List.take_append_of_le_length (by omega), List.take_of_length_le (by omega)]
        exact h3
      | succ j =>
        have e := k3 j y (by simpa using hy)
        rw [show (j + 1) * C = vs.length + j * C by rw [Nat.add_mul, Nat.one_mul, h1]; omega, List.drop_append, List.drop_of_length_le (by omega), List.nil_append, show vs.length + j * C - vs.length = j * C by omega]
        exact e
/-- where a row of one's own lies -/
theorem ON.block {C : Nat} (h : ON E C t w (.slice (some ⟨g, 0, none⟩) n cap) xs wr) {i : Nat} (hi : i < n * C) : (∃ u, wr.cell? ⟨g, i, none⟩ = some u) ∧ wr.frozen? ⟨g, i, none⟩ = false := by
  obtain ⟨fl, h1, _⟩ := h
  have hn : n = xs.length := by
    rcases h1.2 with ⟨e, _⟩ | ⟨g', cap', cur, e, _⟩
    · cases e
    · injection e
  subst hn
  refine ⟨?_, h1.frozenAt i⟩
  rw [h1.cellAt i hi, List.getElem?_eq_getElem (by rw [h1.1]; exact hi)]
  exact ⟨_, rfl⟩
theorem ON.head {C : Nat} {A : Option Addr} (h : ON E C t w (.slice A n cap) xs wr) (hn : 0 < n) : ∃ g, A = some ⟨g, 0, none⟩ ∧ w.heap.size ≤ g ∧ g < wr.heap.size := by
  obtain ⟨fl, h1, _⟩ := h
  rcases id h1.2 with ⟨e, h0⟩ | ⟨g', cap', cur, e, _⟩
  · injection e with e1 e2 e3
    omega
  · injection e with e1 e2 e3
    subst e1
    exact ⟨g', rfl, h1.lt g' rfl⟩
theorem heap_setRow (b : Nat) : ∀ (vs : List Value) (o : Nat) (w : World) {g : Nat}, b ≠ g → (w.setCells g o vs).heap[b]? = w.heap[b]?
  | [], _, _, _, _ => rfl
  | v :: r, o, w, g, h => by
    show ((w.setCell ⟨g, o, none⟩ v).setCells g (o + 1) r).heap[b]? = _
    rw [heap_setRow b r (o + 1) _ h, Below.heap_setCell _ _ _ _ h]
theorem size_setRow : ∀ (vs : List Value) (o : Nat) (w : World) (g : Nat), (w.setCells g o vs).heap.size = w.heap.size
  | [], _, _, _ => rfl
  | v :: r, o, w, g => by
    show ((w.setCell ⟨g, o, none⟩ v).setCells g (o + 1) r).heap.size = _
    rw [size_setRow r]
    simp [World.setCell]
theorem below_setRow {B g : Nat} {w0 : World} (hg : B ≤ g) : ∀ (vs : List Value) (o : Nat) (w : World), Below B w0 w → Below B w0 (w.setCells g o vs)
  | [], _, _, h => h
  | v :: r, o, w, h => by
    show Below B w0 ((w.setCell ⟨g, o, none⟩ v).setCells g (o + 1) r)
    exact below_setRow hg r (o + 1) _ (h.setCell (p := ⟨g, o, none⟩) hg v)
theorem own_setRow {C B : Nat} : ∀ (vs : List Value) (o : Nat) (wr : World) (fl : List Value), wr.ownsRow B t C (.slice (some ⟨g, 0, none⟩) n cap) n fl →
    ∃ fl' : List Value, (wr.setCells g o vs).ownsRow B t C (.slice (some ⟨g, 0, none⟩) n cap) n fl' ∧ ∀ k, fl'[k]? = if o ≤ k ∧ k < o + vs.length ∧ k < fl.length then vs[k - o]? else fl[k]?
  | [], o, wr, fl, h => ⟨fl, h, fun k => by rw [if_neg (by simp; omega)]⟩
  | v :: r, o, wr, fl, h => by
    obtain ⟨fl', f1, f2⟩ := own_setRow r (o + 1) _ _ (h.stored o v).1
    refine ⟨fl', f1, fun k => ?_⟩
    rw [f2 k, List.length_set, List.getElem?_set, List.length_cons]
    by_cases hk : k < fl.length
    · by_cases h1 : k = o
      · subst h1
        rw [if_neg (by omega), if_pos rfl, if_pos hk, if_pos ⟨Nat.le_refl _, by omega, hk⟩, Nat.sub_self]
        rfl
      · rw [if_neg (show ¬ o = k from fun e => h1 e.symm)]
        by_cases h2 : o + 1 ≤ k ∧ k < o + 1 + r.length
        · rw [if_pos ⟨h2.1, h2.2, hk⟩, if_pos ⟨by omega, by omega, hk⟩, show k - o = (k - (o + 1)) + 1 by omega]
          rfl
        · rw [if_neg (fun h => h2 ⟨h.1, h.2.1⟩), if_neg (fun h => h2 ⟨by omega, by omega⟩)]
    · by_cases ho : o = k
      · subst ho
        simp [hk]
      · simp [hk, ho]
/-- an element of a row of one's own is stored anew -/
theorem ON.setN {C : Nat} (hE : Steady E) (h : ON E C t w (.slice (some ⟨g, 0, none⟩) n cap) xs wr) {i : Nat} (hi : i < xs.length) {x : α} {vs : List Value} (hvs : vs.length = C) (hx : E wr (fun b => b < wr.heap.size ∧ b ≠ g) x vs) :
    ON E C t w (.slice (some ⟨g, 0, none⟩) n cap) (xs.set i x) (wr.setCells g (i * C) vs) := by
  obtain ⟨fl, h1, h2, h3⟩ := h
  have hn : n = xs.length := by
    rcases h1.2 with ⟨e, _⟩ | ⟨g', cap', cur, e, _⟩
    · cases e
    · injection e
  subst hn
  have hfl := h1.1
  have hgb : w.heap.size ≤ g := (h1.lt g rfl).1
  obtain ⟨fl', f1, f2⟩ := own_setRow vs (i * C) _ _ h1
  have hle : ∀ q, q < xs.length → q * C + C ≤ xs.length * C := fun q hq => by rw [← Nat.succ_mul]; exact Nat.mul_le_mul_right C hq
  refine ⟨fl', by rw [List.length_set]; exact f1, below_setRow hgb _ _ _ h2, fun j y hy => ?_⟩
  have hj : j < xs.length := by have := (List.getElem?_eq_some_iff.1 hy).1; rwa [List.length_set] at this
  by_cases hji : j = i
  · subst hji
    rw [List.getElem?_set_self hj] at hy
    have hy' : x = y := by simpa using hy
    subst hy'
    have e : (fl'.drop (j * C)).take C = vs := by
      apply List.ext_getElem?
      intro k
      by_cases hk : k < C
      · rw [List.getElem?_take_of_lt hk, List.getElem?_drop, f2, if_pos ⟨by omega, by omega, by have := hle j hj; omega⟩, show j * C + k - j * C = k by omega]
      · rw [List.getElem?_eq_none (by rw [List.length_take]; omega), List.getElem?_eq_none (by omega)]
    rw [e]
    exact hE.keep hx (fun b hb => heap_setRow b _ _ _ hb.2) (fun b hb => ⟨by rw [size_setRow]; exact hb.1, fun e => by
      have e' : g = b := by simpa [Value.ownBlock] using e
      exact hb.2 e'.symm⟩)
  · rw [List.getElem?_set_ne (fun e => hji e.symm)] at hy
    have e : (fl'.drop (j * C)).take C = (fl.drop (j * C)).take C := by
      apply List.ext_getElem?
      intro k
      rw [List.getElem?_take, List.getElem?_take]
      split
      · rename_i hk
        rw [List.getElem?_drop, List.getElem?_drop, f2, if_neg]
        rintro ⟨h4, h5, _⟩
        rcases Nat.lt_or_ge j i with h6 | h6
        · have : j * C + C ≤ i * C := by rw [← Nat.succ_mul]; exact Nat.mul_le_mul_right C h6
          omega
        · have : i * C + C ≤ j * C := by rw [← Nat.succ_mul]; exact Nat.mul_le_mul_right C (by omega)
          omega
      · rfl
    rw [e]
    refine hE.keep (h3 j y hy) (fun b hb => heap_setRow b _ _ _ (fun e => hb.2 (by rw [e]; rfl))) (fun b hb => ⟨by rw [size_setRow]; exact hb.1, hb.2⟩)
end
/-- a row of one's own behind block B, whose elements reach blocks that are 'ok' -/
def RowQ {α : Type} (E : Elem α) (C : Nat) (t : TypeId) (ok : Nat → Prop) (B : Nat) (v : Value) (xs : List α) (wr : World) : Prop :=
  ∃ fl : List Value, wr.ownsRow B t C v xs.length fl ∧ ∀ j x, xs[j]? = some x → E wr ok x ((fl.drop (j * C)).take C)
section
variable {α : Type} {E : Elem α} {C : Nat} {t : TypeId} {ok : Nat → Prop} {B : Nat} {v : Value} {xs : List α} {w wr w1 : World}
theorem RowQ.keep (hE : Steady E) (h : RowQ E C t ok B v xs wr) (hk : ∀ b, ok b ∨ v.ownBlock = some b → w1.heap[b]? = wr.heap[b]?) : RowQ E C t ok B v xs w1 := by
  obtain ⟨fl, h1, h2⟩ := h
  refine ⟨fl, ⟨h1.1, h1.2.imp id ?_⟩, fun j x hx => hE.keep (h2 j x hx) (fun b hb => hk b (.inl hb)) (fun _ h => h)⟩
  rintro ⟨g, cap, cur, e1, e2, e3, e4⟩
  exact ⟨g, cap, cur, e1, e2, (hk g (.inr (by rw [e1]; rfl))).trans e3, e4⟩
theorem RowQ.on (hE : Steady E) (h : RowQ E C t ok w.heap.size v xs wr) (hb : Below w.heap.size w wr) (hok : ∀ b, ok b → b < wr.heap.size ∧ v.ownBlock ≠ some b) : ON E C t w v xs wr := by
  obtain ⟨fl, h1, h2⟩ := h
  exact ⟨fl, h1, hb, fun j x hx => hE.keep (h2 j x hx) (fun _ _ => rfl) hok⟩
theorem RowQ.own (h : RowQ E C t ok B v xs wr) : ∀ b, v.ownBlock = some b → B ≤ b ∧ b < wr.heap.size := by
  obtain ⟨fl, h1, _⟩ := h
  exact h1.lt
theorem RowQ.form (h : RowQ E C t ok B v xs wr) : ∃ A c, v = .slice A xs.length c ∧ (A = none → c = 0) ∧ xs.length ≤ c := by
  obtain ⟨fl, h1, _⟩ := h
  rcases h1.2 with ⟨hv, h0⟩ | ⟨g, cap, cur, hv, _, _, hc, _⟩
  · exact ⟨none, 0, by rw [hv, h0], fun _ => rfl, by omega⟩
  · exact ⟨_, cap, hv, (fun e => by cases e), hc⟩
/-- its k-th element -/
theorem RowQ.at {A : Option Addr} {n c : Nat} (h : RowQ E C t ok B (.slice A n c) xs wr) {k : Nat} (hk : k < n) : ∃ g x vs, A = some ⟨g, 0, none⟩ ∧ B ≤ g ∧ g < wr.heap.size ∧ xs[k]? = some x ∧ vs.length = C ∧ (∀ i v, vs[i]? = some v → wr.cell? ⟨g, k * C + i, none⟩ = some v) ∧ E wr ok x vs := by
  obtain ⟨fl, h1, h2⟩ := h
  rcases id h1.2 with ⟨e, h0⟩ | ⟨g, cap, cur, e, _⟩
  · injection e with _ e2 _
    omega
  · injection e with e1 e2 e3
    subst e1 e2 e3
    obtain ⟨hb1, hb2⟩ := h1.lt g rfl
    have hx : xs[k]? = some xs[k] := List.getElem?_eq_getElem hk
    have hle : k * C + C ≤ fl.length := by rw [h1.1, ← Nat.succ_mul]; exact Nat.mul_le_mul_right C hk
    refine ⟨g, xs[k], _, rfl, hb1, hb2, hx, by rw [List.length_take, List.length_drop]; omega, fun i v hv => ?_, h2 k _ hx⟩
    have hi : i < C := by
      have := (List.getElem?_eq_some_iff.1 hv).1
      rw [List.length_take] at this
      omega
    rw [List.getElem?_take_of_lt hi, List.getElem?_drop] at hv
    rw [h1.cellAt (k * C + i) (by rw [← h1.1]; omega)]
    exact hv
end

end Go.Proofs.YtpoalgkgomljmaaGreatDoor
