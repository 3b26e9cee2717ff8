/- The reference's One, Same, At and Short of layer 10. Written by gen/gen_heldref4.py. What the reference's Which answers: of two lists of int, the numbers that are in either, in both, or in the first alone. The reference's Busy and Short of layer 10. Written by gen/gen_heldref5.py. Words for memory: several elements appended at once to an owned row. General: nothing of the program stands here. Words for memory: all blocks but one are as they were. General: nothing of the program stands here. A row of elements of four cells of one's own: an element is stored; its cells, told flat. A table's clone, a holding's own memory. Go's slices.Clone of numbers, by a walk over its text: a clone lies in memory of its own. The program's own, and slices.Clone of holdings: copies in memory of their own. The reference's Plus (bailiwickref02): a time and a length further on, at most Never; of any two numbers. The program's functions of layer 2 (when) that layer 3 calls: Right, Within, Plus: what they answer of any numbers. -/
import Derived.Test.YtbiofikijehlcaaDoorMg04
import Derived.Test.YtbiofikijehlcaaDoorMg01
import Derived.Lib.SliceRun
import Derived.Laws.OwnMore
import Derived.Test.YtbiofikijehlcaaDoorMg03
import Derived.LoopTactic
import Derived.Deep.QuietTactic
import Derived.Below
namespace Go.Proofs.YtbiofikijehlcaaDoor
open Go.RowKit

theorem hd_ext {a b : Hd} (h1 : a.id = b.id) (h2 : a.frm = b.frm) (h3 : a.to = b.to) (h4 : a.things = b.things) : a = b := by
  cases a; cases b; simp_all
def sameH (a b : Hd) : Bool := decide (a.id = b.id ∧ a.frm = b.frm ∧ a.to = b.to ∧ a.things = b.things)
theorem sameH_iff {a b : Hd} : sameH a b = true ↔ a = b := by
  unfold sameH
  rw [decide_eq_true_eq]
  exact ⟨fun h => hd_ext h.1 h.2.1 h.2.2.1 h.2.2.2, fun h => by subst h; exact ⟨rfl, rfl, rfl, rfl⟩⟩
set_option maxRecDepth 100000 in
set_option maxHeartbeats 8000000 in
theorem refOne_0 (A : Option Addr) (m c : Nat) (A2 : Option Addr) (m2 c2 : Nat) (a b : Hd) (w : World) (ha : HAsk w A m c a) (hb : HAsk w A2 m2 c2 b) (h0 : ¬ a.id = b.id) :
    Calls Tryd.prog 16 #[.agg #[.int .i64 a.id, .slice A m c, .int .i64 a.frm, .int .i64 a.to], .agg #[.int .i64 b.id, .slice A2 m2 c2, .int .i64 b.frm, .int .i64 b.to]] w fun e w' => e = .returned (.bool false) ∧ Below w.heap.size w w' := by
  obtain ⟨W, hW⟩ : ∃ W, W = (w.alloc (hO a A m c)).alloc (hO b A2 m2 c2) := ⟨_, rfl⟩
  have BX : Hid (BoxH W w.heap.size a A m c) := Lib.hid (by rw [hW]; exact (boxH_new w a A m c).next ((Below.refl _ _).alloc (Nat.le_refl _) _))
  have BY : Hid (BoxH W (w.heap.size + 1) b A2 m2 c2) := Lib.hid (by
    have := boxH_new (w.alloc (hO a A m c)) b A2 m2 c2
    rw [show (w.alloc (hO a A m c)).heap.size = w.heap.size + 1 by simp] at this
    rw [hW]; exact this)
  have hb0 : Below w.heap.size w W := by rw [hW]; exact ((Below.refl _ _).alloc (Nat.le_refl _) _).alloc (by simp) _
  have HB := Lib.hid hb0
  have HA := Lib.hid (ha.next hb0)
  have HA2 := Lib.hid (hb.next hb0)
  unfold hO at hW
  have d0 : (a.id == b.id) = false := by simpa using h0
  clear hb0 ha hb h0
  have p0 := BX.out.c0
  have p1 := BX.out.c1
  have p2 := BX.out.c2
  have p3 := BX.out.c3
  have q0 := BY.out.c0
  have q1 := BY.out.c1
  have q2 := BY.out.c2
  have q3 := BY.out.c3
  go_enter Tryd.func16, Tryd.ntmps16
  go_wp2_with fail
  rw [← hW]
  clear hW
  go_wp2
  go_ret
  exact ⟨rfl, HB.out⟩
set_option maxRecDepth 100000 in
set_option maxHeartbeats 8000000 in
theorem refOne_1 (A : Option Addr) (m c : Nat) (A2 : Option Addr) (m2 c2 : Nat) (a b : Hd) (w : World) (ha : HAsk w A m c a) (hb : HAsk w A2 m2 c2 b) (h0 : a.id = b.id) (h1 : ¬ a.frm = b.frm) :
    Calls Tryd.prog 16 #[.agg #[.int .i64 a.id, .slice A m c, .int .i64 a.frm, .int .i64 a.to], .agg #[.int .i64 b.id, .slice A2 m2 c2, .int .i64 b.frm, .int .i64 b.to]] w fun e w' => e = .returned (.bool false) ∧ Below w.heap.size w w' := by
  obtain ⟨W, hW⟩ : ∃ W, W = (w.alloc (hO a A m c)).alloc (hO b A2 m2 c2) := ⟨_, rfl⟩
  have BX : Hid (BoxH W w.heap.size a A m c) := Lib.hid (by rw [hW]; exact (boxH_new w a A m c).next ((Below.refl _ _).alloc (Nat.le_refl _) _))
  have BY : Hid (BoxH W (w.heap.size + 1) b A2 m2 c2) := Lib.hid (by
    have := boxH_new (w.alloc (hO a A m c)) b A2 m2 c2
    rw [show (w.alloc (hO a A m c)).heap.size = w.heap.size + 1 by simp] at this
    rw [hW]; exact this)
  have hb0 : Below w.heap.size w W := by rw [hW]; exact ((Below.refl _ _).alloc (Nat.le_refl _) _).alloc (by simp) _
  have HB := Lib.hid hb0
  have HA := Lib.hid (ha.next hb0)
  have HA2 := Lib.hid (hb.next hb0)
  unfold hO at hW
  have d0 : (a.id == b.id) = true := by simpa using h0
  have d1 : (a.frm == b.frm) = false := by simpa using h1
  clear hb0 ha hb h0 h1
  have p0 := BX.out.c0
  have p1 := BX.out.c1
  have p2 := BX.out.c2
  have p3 := BX.out.c3
  have q0 := BY.out.c0
  have q1 := BY.out.c1
  have q2 := BY.out.c2
  have q3 := BY.out.c3
  go_enter Tryd.func16, Tryd.ntmps16
  go_wp2_with fail
  rw [← hW]
  clear hW
  go_wp2
  go_ret
  exact ⟨rfl, HB.out⟩
set_option maxRecDepth 100000 in
set_option maxHeartbeats 8000000 in
theorem refOne_2 (A : Option Addr) (m c : Nat) (A2 : Option Addr) (m2 c2 : Nat) (a b : Hd) (w : World) (ha : HAsk w A m c a) (hb : HAsk w A2 m2 c2 b) (h0 : a.id = b.id) (h1 : a.frm = b.frm) (h2 : ¬ a.to = b.to) :
    Calls Tryd.prog 16 #[.agg #[.int .i64 a.id, .slice A m c, .int .i64 a.frm, .int .i64 a.to], .agg #[.int .i64 b.id, .slice A2 m2 c2, .int .i64 b.frm, .int .i64 b.to]] w fun e w' => e = .returned (.bool false) ∧ Below w.heap.size w w' := by
  obtain ⟨W, hW⟩ : ∃ W, W = (w.alloc (hO a A m c)).alloc (hO b A2 m2 c2) := ⟨_, rfl⟩
  have BX : Hid (BoxH W w.heap.size a A m c) := Lib.hid (by rw [hW]; exact (boxH_new w a A m c).next ((Below.refl _ _).alloc (Nat.le_refl _) _))
  have BY : Hid (BoxH W (w.heap.size + 1) b A2 m2 c2) := Lib.hid (by
    have := boxH_new (w.alloc (hO a A m c)) b A2 m2 c2
    rw [show (w.alloc (hO a A m c)).heap.size = w.heap.size + 1 by simp] at this
    rw [hW]; exact this)
  have hb0 : Below w.heap.size w W := by rw [hW]; exact ((Below.refl _ _).alloc (Nat.le_refl _) _).alloc (by simp) _
  have HB := Lib.hid hb0
  have HA := Lib.hid (ha.next hb0)
  have HA2 := Lib.hid (hb.next hb0)
  unfold hO at hW
  have d0 : (a.id == b.id) = true := by simpa using h0
  have d1 : (a.frm == b.frm) = true := by simpa using h1
  have d2 : (a.to == b.to) = false := by simpa using h2
  clear hb0 ha hb h0 h1 h2
  have p0 := BX.out.c0
  have p1 := BX.out.c1
  have p2 := BX.out.c2
  have p3 := BX.out.c3
  have q0 := BY.out.c0
  have q1 := BY.out.c1
  have q2 := BY.out.c2
  have q3 := BY.out.c3
  go_enter Tryd.func16, Tryd.ntmps16
  go_wp2_with fail
  rw [← hW]
  clear hW
  go_wp2
  go_ret
  exact ⟨rfl, HB.out⟩
set_option maxRecDepth 100000 in
set_option maxHeartbeats 8000000 in
theorem refOne_3 (A : Option Addr) (m c : Nat) (A2 : Option Addr) (m2 c2 : Nat) (a b : Hd) (w : World) (ha : HAsk w A m c a) (hb : HAsk w A2 m2 c2 b) (h0 : a.id = b.id) (h1 : a.frm = b.frm) (h2 : a.to = b.to) :
    Calls Tryd.prog 16 #[.agg #[.int .i64 a.id, .slice A m c, .int .i64 a.frm, .int .i64 a.to], .agg #[.int .i64 b.id, .slice A2 m2 c2, .int .i64 b.frm, .int .i64 b.to]] w fun e w' => e = .returned (.bool (sameB a.things b.things)) ∧ Below w.heap.size w w' := by
  obtain ⟨W, hW⟩ : ∃ W, W = (w.alloc (hO a A m c)).alloc (hO b A2 m2 c2) := ⟨_, rfl⟩
  have BX : Hid (BoxH W w.heap.size a A m c) := Lib.hid (by rw [hW]; exact (boxH_new w a A m c).next ((Below.refl _ _).alloc (Nat.le_refl _) _))
  have BY : Hid (BoxH W (w.heap.size + 1) b A2 m2 c2) := Lib.hid (by
    have := boxH_new (w.alloc (hO a A m c)) b A2 m2 c2
    rw [show (w.alloc (hO a A m c)).heap.size = w.heap.size + 1 by simp] at this
    rw [hW]; exact this)
  have hb0 : Below w.heap.size w W := by rw [hW]; exact ((Below.refl _ _).alloc (Nat.le_refl _) _).alloc (by simp) _
  have HB := Lib.hid hb0
  have HA := Lib.hid (ha.next hb0)
  have HA2 := Lib.hid (hb.next hb0)
  unfold hO at hW
  have d0 : (a.id == b.id) = true := by simpa using h0
  have d1 : (a.frm == b.frm) = true := by simpa using h1
  have d2 : (a.to == b.to) = true := by simpa using h2
  obtain ⟨v, hv⟩ : ∃ v, sameB a.things b.things = v := ⟨_, rfl⟩
  rw [hv]
  have EV := Lib.hid hv
  clear hv
  clear hb0 ha hb h0 h1 h2
  have p0 := BX.out.c0
  have p1 := BX.out.c1
  have p2 := BX.out.c2
  have p3 := BX.out.c3
  have q0 := BY.out.c0
  have q1 := BY.out.c1
  have q2 := BY.out.c2
  have q3 := BY.out.c3
  go_enter Tryd.func16, Tryd.ntmps16
  go_wp2_with fail
  rw [← hW]
  clear hW
  refine (ri_same HA.out.reads HA2.out.reads HA.out.few HA2.out.few EV.out).mono ?_
  rintro e w1 ⟨rfl, hb⟩
  have HB1 := Lib.hid (HB.out.trans (hb.mono HB.out.size))
  clear hb
  go_wp2
  go_ret
  exact ⟨rfl, HB1.out⟩
theorem refOne_any {A : Option Addr} {m c : Nat} {A2 : Option Addr} {m2 c2 : Nat} {a b : Hd} {w : World} {v : Bool} (ha : HAsk w A m c a) (hb : HAsk w A2 m2 c2 b) (e : sameH a b = v) :
    Calls Tryd.prog 16 #[.agg #[.int .i64 a.id, .slice A m c, .int .i64 a.frm, .int .i64 a.to], .agg #[.int .i64 b.id, .slice A2 m2 c2, .int .i64 b.frm, .int .i64 b.to]] w fun e w' => e = .returned (.bool v) ∧ Below w.heap.size w w' := by
  subst e
  by_cases h0 : a.id = b.id
  · by_cases h1 : a.frm = b.frm
    · by_cases h2 : a.to = b.to
      · have e : sameH a b = sameB a.things b.things := by
          rw [Bool.eq_iff_iff, sameB_iff]
          unfold sameH
          rw [decide_eq_true_eq]
          exact ⟨fun h => h.2.2.2, fun h => ⟨h0, h1, h2, h⟩⟩
        rw [e]
        exact refOne_3 A m c A2 m2 c2 a b w ha hb h0 h1 h2
      · rw [show sameH a b = false from decide_eq_false (fun e => h2 e.2.2.1)]
        exact refOne_2 A m c A2 m2 c2 a b w ha hb h0 h1 h2
    · rw [show sameH a b = false from decide_eq_false (fun e => h1 e.2.1)]
      exact refOne_1 A m c A2 m2 c2 a b w ha hb h0 h1
  · rw [show sameH a b = false from decide_eq_false (fun e => h0 e.1)]
    exact refOne_0 A m c A2 m2 c2 a b w ha hb h0

theorem tb_ext {a b : Tb} {n : Nat} (h1 : a.length = n) (h2 : b.length = n) (h : ∀ j, j < n → a.getD j hd0 = b.getD j hd0) : a = b := by
  apply List.ext_getElem (by omega)
  intro j hj1 hj2
  have := h j (by omega)
  rwa [getD_hd hj1, getD_hd hj2] at this
def sameT' (a b : Tb) : Bool := decide (a.length = b.length ∧ ∀ j, j < a.length → sameH (a.getD j hd0) (b.getD j hd0) = true)
theorem sameT_iff {a b : Tb} : sameT' a b = true ↔ a = b := by
  unfold sameT'
  rw [decide_eq_true_eq]
  constructor
  · rintro ⟨h1, h2⟩
    exact tb_ext rfl h1.symm fun j hj => sameH_iff.1 (h2 j hj)
  · rintro rfl
    exact ⟨rfl, fun j _ => sameH_iff.2 rfl⟩
set_option maxRecDepth 100000 in
set_option maxHeartbeats 8000000 in
theorem refSameT_any (A : Option Addr) (n c : Nat) (A2 : Option Addr) (n2 c2 : Nat) (a b : Tb) (w : World) (ha : RT w w.heap.size A n a) (hb : RT w w.heap.size A2 n2 b) (hn : n ≤ maxLen) (hn2 : n2 ≤ maxLen) :
    Calls Tryd.prog 7 #[.slice A n c, .slice A2 n2 c2] w fun e w' => e = .returned (.bool (sameT' a b)) ∧ Below w.heap.size w w' := by
  have HA0 := Lib.hid ha
  have HB0 := Lib.hid hb
  have LA := Lib.hid ha.len
  have LB := Lib.hid hb.len
  obtain ⟨v, hv⟩ : ∃ v, sameT' a b = v := ⟨_, rfl⟩
  have HV0 := Lib.hid hv
  rw [hv]
  unfold maxLen at hn hn2
  clear ha hb hv
  by_cases hnn : n = n2
  · subst hnn
    have d0 : (n != n) = false := by simp
    go_enter Tryd.func7, Tryd.ntmps7
    go_wp2
    go_loopw [5] (fun kv wr => ∃ k : Nat, k ≤ n ∧ kv = .int .i64 k ∧ (∀ j, j < k → sameH (a.getD j hd0) (b.getD j hd0) = true) ∧ Below w.heap.size w wr) (fun kv _ => n - (intOf kv).toNat)
    case atStart => exact ⟨0, Nat.zero_le _, rfl, fun j hj => absurd hj (by omega), Below.refl _ _⟩
    case round =>
      obtain ⟨k, hk, rfl, hpre, hbel⟩ := hrel
      have HP := Lib.hid hpre
      have HB := Lib.hid hbel
      have HRA := Lib.hid (HA0.out.next hbel)
      have HRB := Lib.hid (HB0.out.next hbel)
      clear hpre hbel
      by_cases hlt : k < n
      · obtain ⟨ba, oa, A3, m3, c3, rfl, hla, c0, c1, c2', c3', hx⟩ := HRA.out.one hlt
        obtain ⟨bb, ob, A4, m4, c4, rfl, hlb, d0', d1, d2, d3, hy⟩ := HRB.out.one hlt
        have d0 := d0'
        clear d0'
        obtain ⟨x, hxx⟩ : ∃ x, a.getD k hd0 = x := ⟨_, rfl⟩
        obtain ⟨y, hyy⟩ : ∃ y, b.getD k hd0 = y := ⟨_, rfl⟩
        rw [hxx] at c0 c2' c3' hx
        rw [hyy] at d0 d2 d3 hy
        have HX := Lib.hid hx
        have HY := Lib.hid hy
        have HXX := Lib.hid hxx
        have HYY := Lib.hid hyy
        clear hx hy hxx hyy
        cases hs : sameH x y with
        | true =>
          have EV := Lib.hid hs
          have HN : Hid (∀ j, j < k + 1 → sameH (a.getD j hd0) (b.getD j hd0) = true) := Lib.hid (fun j hj => by
            by_cases e : j = k
            · subst e; rw [HXX.out, HYY.out]; exact hs
            · exact HP.out j (by omega))
          clear hs
          go_wp2
          have zc0 : ∀ p : Later wr, p.now.cell? ⟨ba, oa + k * 4, none⟩ = some (.int .i64 x.id) := fun _ => Later.cell hla c0
          have zc1 : ∀ p : Later wr, p.now.cell? ⟨ba, oa + k * 4 + 1, none⟩ = some (.slice A3 m3 c3) := fun _ => Later.cell hla c1
          have zc2 : ∀ p : Later wr, p.now.cell? ⟨ba, oa + k * 4 + 2, none⟩ = some (.int .i64 x.frm) := fun _ => Later.cell hla c2'
          have zc3 : ∀ p : Later wr, p.now.cell? ⟨ba, oa + k * 4 + 3, none⟩ = some (.int .i64 x.to) := fun _ => Later.cell hla c3'
          have zc4 : ∀ p : Later wr, p.now.cell? ⟨bb, ob + k * 4, none⟩ = some (.int .i64 y.id) := fun _ => Later.cell hlb d0
          have zc5 : ∀ p : Later wr, p.now.cell? ⟨bb, ob + k * 4 + 1, none⟩ = some (.slice A4 m4 c4) := fun _ => Later.cell hlb d1
          have zc6 : ∀ p : Later wr, p.now.cell? ⟨bb, ob + k * 4 + 2, none⟩ = some (.int .i64 y.frm) := fun _ => Later.cell hlb d2
          have zc7 : ∀ p : Later wr, p.now.cell? ⟨bb, ob + k * 4 + 3, none⟩ = some (.int .i64 y.to) := fun _ => Later.cell hlb d3
          refine wp_region_later (by kernel_rfl) (by kernel_rfl) ?_
          repeat (first | go_big_quiet_skip | (go_big_quiet_want; go_big_quiet_op; first | go_big_quiet_on | (apply Exists.intro; refine ⟨fun pz => ?_, ?_⟩; (first | (go_at_call 16; exact Calls.later_of (refOne_any (HX.out.next pz.bel) (HY.out.next pz.bel) EV.out)) | fail); go_big_quiet_on)))
          refine wpQuiet_nil ?_
          intro _ hw'
          obtain ⟨pz, rfl⟩ := hw'
          obtain ⟨w1, hb⟩ := pz
          try dsimp only
          clear zc0 zc1 zc2 zc3 zc4 zc5 zc6 zc7
          have HBq := Lib.hid (HB.out.trans (hb.mono HB.out.size))
          clear HB
          have HB := HBq
          clear HBq
          have HXq := Lib.hid (HX.out.next hb)
          clear HX
          have HX := HXq
          clear HXq
          have HYq := Lib.hid (HY.out.next hb)
          clear HY
          have HY := HYq
          clear HYq
          clear hb
          go_wp2
          go_roundw
          case rel => exact ⟨k + 1, by omega, by go_num, HN.out, HB.out⟩
          case measure => simp [intOf]; omega
        | false =>
          have EV := Lib.hid hs
          have HV : Hid (v = false) := Lib.hid (by
            rw [← HV0.out]
            exact decide_eq_false (fun h => by have := h.2 k (by rw [LA.out]; exact hlt); rw [HXX.out, HYY.out, hs] at this; cases this))
          clear hs
          go_wp2
          have zc0 : ∀ p : Later wr, p.now.cell? ⟨ba, oa + k * 4, none⟩ = some (.int .i64 x.id) := fun _ => Later.cell hla c0
          have zc1 : ∀ p : Later wr, p.now.cell? ⟨ba, oa + k * 4 + 1, none⟩ = some (.slice A3 m3 c3) := fun _ => Later.cell hla c1
          have zc2 : ∀ p : Later wr, p.now.cell? ⟨ba, oa + k * 4 + 2, none⟩ = some (.int .i64 x.frm) := fun _ => Later.cell hla c2'
          have zc3 : ∀ p : Later wr, p.now.cell? ⟨ba, oa + k * 4 + 3, none⟩ = some (.int .i64 x.to) := fun _ => Later.cell hla c3'
          have zc4 : ∀ p : Later wr, p.now.cell? ⟨bb, ob + k * 4, none⟩ = some (.int .i64 y.id) := fun _ => Later.cell hlb d0
          have zc5 : ∀ p : Later wr, p.now.cell? ⟨bb, ob + k * 4 + 1, none⟩ = some (.slice A4 m4 c4) := fun _ => Later.cell hlb d1
          have zc6 : ∀ p : Later wr, p.now.cell? ⟨bb, ob + k * 4 + 2, none⟩ = some (.int .i64 y.frm) := fun _ => Later.cell hlb d2
          have zc7 : ∀ p : Later wr, p.now.cell? ⟨bb, ob + k * 4 + 3, none⟩ = some (.int .i64 y.to) := fun _ => Later.cell hlb d3
          refine wp_region_later (by kernel_rfl) (by kernel_rfl) ?_
          repeat (first | go_big_quiet_skip | (go_big_quiet_want; go_big_quiet_op; first | go_big_quiet_on | (apply Exists.intro; refine ⟨fun pz => ?_, ?_⟩; (first | (go_at_call 16; exact Calls.later_of (refOne_any (HX.out.next pz.bel) (HY.out.next pz.bel) EV.out)) | fail); go_big_quiet_on)))
          refine wpQuiet_nil ?_
          intro _ hw'
          obtain ⟨pz, rfl⟩ := hw'
          obtain ⟨w1, hb⟩ := pz
          try dsimp only
          clear zc0 zc1 zc2 zc3 zc4 zc5 zc6 zc7
          have HBq := Lib.hid (HB.out.trans (hb.mono HB.out.size))
          clear HB
          have HB := HBq
          clear HBq
          have HXq := Lib.hid (HX.out.next hb)
          clear HX
          have HX := HXq
          clear HXq
          have HYq := Lib.hid (HY.out.next hb)
          clear HY
          have HY := HYq
          clear HYq
          clear hb
          go_wp2
          go_ret
          exact ⟨by rw [HV.out]; rfl, HB.out⟩
      · have hkn : k = n := by omega
        have HV : Hid (v = true) := Lib.hid (by
          rw [← HV0.out]
          exact decide_eq_true ⟨by rw [LA.out, LB.out], fun j hj => HP.out j (by rw [hkn, ← LA.out]; exact hj)⟩)
        go_wp2
        go_ret
        exact ⟨by rw [HV.out]; rfl, HB.out⟩
  · have d0 : (n != n2) = true := by simpa using hnn
    have d1 : ((n : Int) != (n2 : Int)) = true := by simp; omega
    have HV : Hid (v = false) := Lib.hid (by
      rw [← HV0.out]
      exact decide_eq_false (fun h => hnn (by have := h.1; rw [LA.out, LB.out] at this; exact this)))
    go_enter Tryd.func7, Tryd.ntmps7
    go_wp2
    go_ret
    exact ⟨by rw [HV.out]; rfl, Below.refl _ _⟩

/-- the first holding of this number; -1: none is -/
def FirstAt (l : Tb) (id r : Int) : Prop := (r = -1 ∧ ∀ j, j < l.length → (l.getD j hd0).id ≠ id) ∨ ∃ k : Nat, k < l.length ∧ r = (k : Int) ∧ (l.getD k hd0).id = id ∧ ∀ j, j < k → (l.getD j hd0).id ≠ id

end Go.Proofs.YtbiofikijehlcaaDoor

namespace Go.Proofs.YtbiofikijehlcaaDoor
open Go.RowKit
open Go.Shelf

theorem inB_eq (xs : List Int) (v : Int) : xs.contains v = inB xs v := rfl
theorem pickN_yes {p : Int → Bool} {k : Nat} (h : p (k : Int) = true) : pickN p 0 (k + 1) = pickN p 0 k ++ [(k : Int)] := by
  rw [pickN_snoc, Nat.zero_add, if_pos h]
theorem pickN_no {p : Int → Bool} {k : Nat} (h : p (k : Int) = false) : pickN p 0 (k + 1) = pickN p 0 k := by
  rw [pickN_snoc, Nat.zero_add, h]; simp

/-- where the loop stands -/
def WhichRel (p : Int → Bool) (w : World) (v i : Value) (wr : World) : Prop :=
  ∃ k : Nat, k ≤ 256 ∧ i = .int .i64 k ∧ wr.ownsRow w.heap.size 3 1 v (pickN p 0 k).length ((pickN p 0 k).map (Value.int .i64)) ∧ Below w.heap.size w wr

theorem which_step {p : Int → Bool} {w wr w1 : World} {v v' : Value} {k : Nat} {o : Obj} (hk : k < 256) (hp : p (k : Int) = true) (hb : Below w.heap.size w wr)
    (hown : wr.ownsRow w.heap.size 3 1 v (pickN p 0 k).length ((pickN p 0 k).map (Value.int .i64)))
    (hown' : w1.ownsRow w.heap.size 3 1 v' ((pickN p 0 k).length + 1) ((pickN p 0 k).map (Value.int .i64) ++ [.int .i64 (k : Int)])) (hgrow : (wr.alloc o).grownBy w1 v.ownBlock) :
    WhichRel p w v' (.int .i64 ((k : Int) + 1)) w1 := by
  refine ⟨k + 1, by omega, by go_num, ?_, (hb.alloc hb.size o).grown hgrow (by have := hb.size; simp; omega) (fun j hj => (hown.lt j hj).1)⟩
  rw [pickN_yes hp, List.length_append, List.map_append]
  exact hown'






end Go.Proofs.YtbiofikijehlcaaDoor

namespace Go.Proofs.YtbiofikijehlcaaDoor
open Go.RowKit


def shortT (l : Tb) : Bool := decide (l.length ≤ 30 ∧ ∀ j, j < l.length → (l.getD j hd0).things.length ≤ 60)
set_option maxRecDepth 100000 in
set_option maxHeartbeats 8000000 in
theorem refShort_any (A : Option Addr) (n c : Nat) (l : Tb) (w : World) (hr : RT w w.heap.size A n l) (hn : n ≤ maxLen) :
    Calls Tryd.prog 5 #[.slice A n c] w fun e w' => e = .returned (.bool (shortT l)) ∧ w = w' := by
  have HR := Lib.hid hr
  have HL := Lib.hid hr.len
  obtain ⟨v, hv⟩ : ∃ v, shortT l = v := ⟨_, rfl⟩
  have HV0 := Lib.hid hv
  rw [hv]
  unfold maxLen at hn
  clear hr hv
  by_cases h30 : 30 < n
  · have d0 : decide (30 < n) = true := decide_eq_true h30
    have HV : Hid (v = false) := Lib.hid (by rw [← HV0.out]; exact decide_eq_false (fun h => by have := h.1; rw [HL.out] at this; omega))
    go_enter Tryd.func5, Tryd.ntmps5
    go_wp2
    go_ret
    exact ⟨by rw [HV.out]; rfl, rfl⟩
  · have d0 : decide (30 < n) = false := decide_eq_false h30
    go_enter Tryd.func5, Tryd.ntmps5
    go_wp2
    go_loopw [3] (fun kv wr => ∃ k : Nat, k ≤ n ∧ kv = .int .i64 k ∧ (∀ j, j < k → (l.getD j hd0).things.length ≤ 60) ∧ wr = w) (fun kv _ => n - (intOf kv).toNat)
    case atStart => exact ⟨0, Nat.zero_le _, rfl, fun j hj => absurd hj (by omega), rfl⟩
    case round =>
      obtain ⟨k, hk, rfl, hpre, rfl⟩ := hrel
      have HP := Lib.hid hpre
      clear hpre
      by_cases hlt : k < n
      · obtain ⟨b, off, A2, m2, c2, rfl, _, _, c1, _, _, hx⟩ := HR.out.one hlt
        have hm := hx.reads.1
        have hm2 := hx.few
        clear hx
        unfold maxLen at hm2
        by_cases h : 60 < m2
        · have d1 : decide (60 < m2) = true := decide_eq_true h
          have HV : Hid (v = false) := Lib.hid (by rw [← HV0.out]; exact decide_eq_false (fun h' => by have := h'.2 k (by rw [HL.out]; exact hlt); omega))
          clear hm
          go_wp2
          go_ret
          exact ⟨by rw [HV.out]; rfl, by trivial⟩
        · have d1 : decide (60 < m2) = false := decide_eq_false h
          have HN : Hid (∀ j, j < k + 1 → (l.getD j hd0).things.length ≤ 60) := Lib.hid (fun j hj => by
            by_cases e : j = k
            · subst e; omega
            · exact HP.out j (by omega))
          clear hm
          go_wp2
          go_roundw
          case rel => exact ⟨k + 1, by omega, by go_num, HN.out, by trivial⟩
          case measure => simp [intOf]; omega
      · have hkn : k = n := by omega
        have HV : Hid (v = true) := Lib.hid (by rw [← HV0.out]; exact decide_eq_true ⟨by rw [HL.out]; omega, fun j hj => HP.out j (by rw [hkn, ← HL.out]; exact hj)⟩)
        go_wp2
        go_ret
        exact ⟨by rw [HV.out]; rfl, by trivial⟩

end Go.Proofs.YtbiofikijehlcaaDoor

namespace Go.Proofs.YtbiofikijehlcaaDoor
open Go.RowKit

section
variable {α : Type} {E : Elem α} {C : Nat} {t : TypeId} {w w2 wr : World} {v : Value} {xs : List α}
theorem ON.app (hE : Steady E) (h : ON E C t w v xs wr) {ys : List α} {vs : List Value} {o : Obj} {fl : List Value} {g cap : Nat}
    (hfl : wr.ownsRow w.heap.size t C v xs.length fl) (hx : ∀ j y, ys[j]? = some y → E wr (fun b => b < wr.heap.size ∧ v.ownBlock ≠ some b) y ((vs.drop (j * C)).take C)) (_ : vs.length = ys.length * C)
    (hold : ∀ j y, xs[j]? = some y → E wr (fun b => b < wr.heap.size ∧ v.ownBlock ≠ some b) y ((fl.drop (j * C)).take C))
    (hown' : w2.ownsRow w.heap.size t C (.slice (some ⟨g, 0, none⟩) (xs.length + ys.length) cap) (xs.length + ys.length) (fl ++ vs)) (hgrow : (wr.alloc o).grownBy w2 v.ownBlock)
    (hat : v.ownBlock = some g ∨ wr.heap.size ≤ g) : ON E C t w (.slice (some ⟨g, 0, none⟩) (xs.length + ys.length) cap) (xs ++ ys) w2 := by
  have hB := h.below
  have hsz : wr.heap.size ≤ w2.heap.size := by have := hgrow.size; simp at this; omega
  have hkeep : ∀ b, (b < wr.heap.size ∧ v.ownBlock ≠ some b) → w2.heap[b]? = wr.heap[b]? := fun b hb =>
    (hgrow.block b (by simp; omega) (fun e => hb.2 e.symm)).trans (Below.heap_alloc wr o b hb.1)
  have hok : ∀ b, (b < wr.heap.size ∧ v.ownBlock ≠ some b) → (b < w2.heap.size ∧ (Value.slice (some ⟨g, 0, none⟩) (xs.length + ys.length) cap).ownBlock ≠ some b) := fun b hb =>
    ⟨by omega, fun e => by
      have e' : g = b := by simpa [Value.ownBlock] using e
      subst e'
      rcases hat with h' | h'
      · exact hb.2 h'
      · omega⟩
  refine ⟨fl ++ vs, by rw [List.length_append]; exact hown', (hB.alloc hB.size o).grown hgrow (by have := hB.size; simp; omega) (fun j hj => (hfl.lt j hj).1), fun j y hy => ?_⟩
  have hfll := hfl.1
  rcases Nat.lt_or_ge j xs.length with hj | hj
  · rw [List.getElem?_append_left hj] at hy
    have e := hE.keep (hold j y hy) hkeep hok
    have hlen : j * C + C ≤ fl.length := by rw [hfll, ← Nat.succ_mul]; exact Nat.mul_le_mul_right C hj
    rw [List.drop_append_of_le_length (by omega), List.take_append_of_le_length (by rw [List.length_drop]; omega)]
    exact e
  · rw [List.getElem?_append_right hj] at hy
    have e := hE.keep (hx (j - xs.length) y hy) hkeep hok
    have hd : (fl ++ vs).drop (j * C) = vs.drop ((j - xs.length) * C) := by
      rw [List.drop_append, List.drop_eq_nil_of_le (by rw [hfll]; exact Nat.mul_le_mul_right C hj), List.nil_append, hfll, ← Nat.sub_mul]
    rw [hd]
    exact e
/-- 'out = append(out, x, y ..)' of an owned row of elements: they have been laid into a block of their own -/
theorem wpList_append_ONs {P : Program} {ops : Array Oper} {rest : List Oper} {o : Oper} {a : Act} {Q : Exit → Act → World → Prop} (hgd : o.guard = none) (s x : Operand) (ty : TypeId)
    (ho : o.op = .call { callee := .builtin .append, args := #[s, x], argTypes := #[ty, ty] })
    (hE : Steady E) (h : ON E C t w v xs wr) (i : TypeInfo) (z : Value) (bytes : Nat) (ht : P.underlying ty = some (.slice t)) (hi : P.info? t = some i) (hz : i.zero = some z)
    (hsize : i.size = C) (hby : i.bytes = bytes) (hzs : z.cells.size = C) (hsz : 0 < C)
    (hs : a.eval s = v) (ys : List α) (m : Nat) (hm : ys.length = m) (hm0 : 0 < m) (cs : Array Value) (hx : a.eval x = .slice (some ⟨wr.heap.size, 0, none⟩) m m) (hl : cs.toList.length = m * C) (h1 : ∀ u ∈ cs.toList, u.oneCell' = true)
    (he : ∀ j y, ys[j]? = some y → E wr (fun b => b < wr.heap.size ∧ v.ownBlock ≠ some b) y ((cs.toList.drop (j * C)).take C))
    (h63 : xs.length + m ≤ maxLen) (hbytes : (xs.length + m) * bytes ≤ 140737488355328)
    (hk : ∀ v' w', ON E C t w v' (xs ++ ys) w' → wpList P ops Q rest (a.put o.dst v') w') : wpList P ops Q (o :: rest) a (wr.alloc (.cells cs t)) := by
  subst hm
  have hB := h.below
  obtain ⟨fl, h2, _, h4⟩ := id h
  refine wpList_append_lies (wr.alloc (.cells cs t)) hgd s x ty ho w.heap.size t i z C bytes ht hi hz hsize hby hzs hsz v xs.length fl hs (h2.alloc _) ⟨wr.heap.size, 0, none⟩ ys.length ys.length cs.toList hx hl
    (World.news_of_block (cs := cs) (t := t) (fr := (0, 0)) (heap_alloc_new wr _)) h1 hm0 h63 hbytes (by have := hB.size; simp; omega) _ rfl ?_
  intro g cap w2 hown' hgrow hat hlt
  exact hk _ _ (h.app hE h2 he hl h4 hown' hgrow (hat.imp id (fun e => by rw [e]; simp)))
end

end Go.Proofs.YtbiofikijehlcaaDoor

namespace Go.Proofs.YtbiofikijehlcaaDoor
open Go.RowKit

/-- all blocks but g are as they were -/
structure But (g : Nat) (w w' : World) : Prop where
  os : w'.os = w.os
  tape : w'.tape = w.tape
  output : w'.output = w.output
  size : w.heap.size ≤ w'.heap.size
  block : ∀ b, b < w.heap.size → b ≠ g → w'.heap[b]? = w.heap[b]?
section
variable {g : Nat} {w w1 w' : World}
theorem But.refl (g : Nat) (w : World) : But g w w := ⟨rfl, rfl, rfl, Nat.le_refl _, fun _ _ _ => rfl⟩
theorem But.trans (h : But g w w1) (k : But g w1 w') : But g w w' :=
  ⟨k.os.trans h.os, k.tape.trans h.tape, k.output.trans h.output, Nat.le_trans h.size k.size, fun b h1 h2 => (k.block b (Nat.lt_of_lt_of_le h1 h.size) h2).trans (h.block b h1 h2)⟩
theorem But.of (g : Nat) (h : Below w.heap.size w w') : But g w w' := ⟨h.os, h.tape, h.output, h.size, fun b h1 _ => h.block b h1⟩
theorem But.next (h : But g w w1) (k : Below w1.heap.size w1 w') : But g w w' := h.trans (But.of g k)
theorem But.below {B : Nat} (h : But g w w') (hB : B ≤ g) (hg : g < w.heap.size) : Below B w w' := ⟨h.os, h.tape, h.output, h.size, fun b hb => h.block b (by omega) (by omega)⟩
theorem But.set (h : But g w w1) (j : Nat) (u : Value) : But g w (w1.setCell ⟨g, j, none⟩ u) :=
  h.trans ⟨rfl, rfl, rfl, by simp [World.setCell], fun b _ hb => Below.heap_setCell _ _ _ _ hb⟩
theorem But.drewN (h : But g w w1) (q : Nat) : But g w (w1.drewN q) := h.next (bel_drew w1 q)
end

end Go.Proofs.YtbiofikijehlcaaDoor

namespace Go.Proofs.YtbiofikijehlcaaDoor
open Go.RowKit

section
variable {α : Type} {E : Elem α} {t : TypeId} {w wr w1 : World} {g n cap : Nat} {xs : List α}
/-- the cells of a list of elements, one behind the other -/
theorem flat_of {C : Nat} {ok : Nat → Prop} {b : Nat} : ∀ (xs : List α) (off : Nat), (∀ j x, xs[j]? = some x → ∃ vs : List Value, vs.length = C ∧ (∀ i v, vs[i]? = some v → w.cell? ⟨b, off + (j * C + i), none⟩ = some v) ∧ E w ok x vs) →
    ∃ fl : List Value, fl.length = xs.length * C ∧ (∀ j u, fl[j]? = some u → w.cell? ⟨b, off + j, none⟩ = some u) ∧ ∀ j x, xs[j]? = some x → E w ok x ((fl.drop (j * C)).take C)
  | [], off, _ => ⟨[], by simp, fun j u h => by simp at h, fun j x h => by simp at h⟩
  | x :: r, off, h => by
    obtain ⟨vs, h1, h2, h3⟩ := h 0 x rfl
    obtain ⟨fl, k1, k2, k3⟩ := flat_of (C := C) r (off + C) (fun j y hy => by
      obtain ⟨us, u1, u2, u3⟩ := h (j + 1) y (by simpa using hy)
      refine ⟨us, u1, fun i v hv => ?_, u3⟩
      have := u2 i v hv
      rw [show off + ((j + 1) * C + i) = off + C + (j * C + i) by rw [Nat.add_mul, Nat.one_mul]; omega] at this
      exact this)
    refine ⟨vs ++ fl, by rw [List.length_append, h1, k1, List.length_cons, Nat.add_mul, Nat.one_mul]; omega, fun j u hu => ?_, fun j y hy => ?_⟩
    · by_cases hj : j < vs.length
      · rw [List.getElem?_append_left hj] at hu
        have := h2 j u hu
        rwa [show off + (0 * C + j) = off + j by omega] at this
      · rw [List.getElem?_append_right (by omega)] at hu
        have := k2 _ u hu
        rwa [show off + C + (j - vs.length) = off + j by omega] at this
    · cases j with
      | zero =>
        have : x = y := by simpa using hy
        subst this
        rw [Nat.zero_mul, List.drop_zero, List.take_append_of_le_length (by omega), List.take_of_length_le (by omega)]
        exact h3
      | succ j =>
        have e := k3 j y (by simpa using hy)
        rw [show (j + 1) * C = vs.length + j * C by rw [Nat.add_mul, Nat.one_mul, h1]; omega, List.drop_append, List.drop_of_length_le (by omega), List.nil_append, show vs.length + j * C - vs.length = j * C by omega]
        exact e
/-- an element of a row of one's own is stored anew -/
theorem ON.set4 (hE : Steady E) (h : ON E 4 t w (.slice (some ⟨g, 0, none⟩) n cap) xs wr) {i : Nat} (hi : i < xs.length) {x : α} {v0 v1 v2 v3 : Value} (hx : E wr (fun b => b < wr.heap.size ∧ b ≠ g) x [v0, v1, v2, v3]) :
    ON E 4 t w (.slice (some ⟨g, 0, none⟩) n cap) (xs.set i x) ((((wr.setCell ⟨g, i * 4, none⟩ v0).setCell ⟨g, i * 4 + 1, none⟩ v1).setCell ⟨g, i * 4 + 2, none⟩ v2).setCell ⟨g, i * 4 + 3, none⟩ v3) := by
  obtain ⟨fl, h1, h2, h3⟩ := h
  have hn : n = xs.length := by
    rcases h1.2 with ⟨e, _⟩ | ⟨g', cap', cur, e, _⟩
    · cases e
    · injection e
  subst hn
  have hfl := h1.1
  have s0 := (h1.stored (i * 4) v0).1
  have s1 := (s0.stored (i * 4 + 1) v1).1
  have s2 := (s1.stored (i * 4 + 2) v2).1
  have s3 := (s2.stored (i * 4 + 3) v3).1
  have hgb : w.heap.size ≤ g := (h1.lt g rfl).1
  have hk : ∀ b, b ≠ g → ((((wr.setCell ⟨g, i * 4, none⟩ v0).setCell ⟨g, i * 4 + 1, none⟩ v1).setCell ⟨g, i * 4 + 2, none⟩ v2).setCell ⟨g, i * 4 + 3, none⟩ v3).heap[b]? = wr.heap[b]? := fun b hb => by
    rw [Below.heap_setCell _ _ _ _ hb, Below.heap_setCell _ _ _ _ hb, Below.heap_setCell _ _ _ _ hb, Below.heap_setCell _ _ _ _ hb]
  have hsz : ((((wr.setCell ⟨g, i * 4, none⟩ v0).setCell ⟨g, i * 4 + 1, none⟩ v1).setCell ⟨g, i * 4 + 2, none⟩ v2).setCell ⟨g, i * 4 + 3, none⟩ v3).heap.size = wr.heap.size := by simp [World.setCell]
  refine ⟨_, by rw [List.length_set]; exact s3, (((h2.setCell (p := ⟨g, _, none⟩) hgb v0).setCell (p := ⟨g, _, none⟩) hgb v1).setCell (p := ⟨g, _, none⟩) hgb v2).setCell (p := ⟨g, _, none⟩) hgb v3, fun j y hy => ?_⟩
  have hj : j < xs.length := by have := (List.getElem?_eq_some_iff.1 hy).1; rwa [List.length_set] at this
  by_cases hji : j = i
  · subst hji
    rw [List.getElem?_set_self hj] at hy
    have hy' : x = y := by simpa using hy
    subst hy'
    have e : ((((((fl.set (j * 4) v0).set (j * 4 + 1) v1).set (j * 4 + 2) v2).set (j * 4 + 3) v3).drop (j * 4)).take 4) = [v0, v1, v2, v3] := by
      apply List.ext_getElem?
      intro k
      match k with
      | 0 => simp [List.getElem?_drop, List.getElem?_set]; omega
      | 1 => simp [List.getElem?_drop, List.getElem?_set]; omega
      | 2 => simp [List.getElem?_drop, List.getElem?_set]; omega
      | 3 => simp [List.getElem?_drop, List.getElem?_set]; omega
      | k + 4 => simp [List.getElem?_take]; omega
    rw [e]
    exact hE.keep hx (fun b hb => hk b hb.2) (fun b hb => ⟨by rw [hsz]; exact hb.1, fun e => by
      have e' : g = b := by simpa [Value.ownBlock] using e
      exact hb.2 e'.symm⟩)
  · rw [List.getElem?_set_ne (fun e => hji e.symm)] at hy
    have e : ((((((fl.set (i * 4) v0).set (i * 4 + 1) v1).set (i * 4 + 2) v2).set (i * 4 + 3) v3).drop (j * 4)).take 4) = (fl.drop (j * 4)).take 4 := by
      apply List.ext_getElem?
      intro k
      rw [List.getElem?_take, List.getElem?_take]
      split
      · rw [List.getElem?_drop, List.getElem?_drop, List.getElem?_set_ne (by omega), List.getElem?_set_ne (by omega), List.getElem?_set_ne (by omega), List.getElem?_set_ne (by omega)]
      · rfl
    rw [e]
    refine hE.keep (h3 j y hy) (fun b hb => hk b (fun e => hb.2 (by rw [e]; rfl))) (fun b hb => ⟨by rw [hsz]; exact hb.1, hb.2⟩)
/-- where a row of one's own lies -/
theorem ON.block (h : ON E 4 t w (.slice (some ⟨g, 0, none⟩) n cap) xs wr) {i : Nat} (hi : i < n * 4) : (∃ u, wr.cell? ⟨g, i, none⟩ = some u) ∧ wr.frozen? ⟨g, i, none⟩ = false := by
  obtain ⟨fl, h1, _⟩ := h
  have hn : n = xs.length := by
    rcases h1.2 with ⟨e, _⟩ | ⟨g', cap', cur, e, _⟩
    · cases e
    · injection e
  subst hn
  refine ⟨?_, h1.frozenAt i⟩
  rw [h1.cellAt i hi, List.getElem?_eq_getElem (by rw [h1.1]; exact hi)]
  exact ⟨_, rfl⟩
theorem ON.head {C : Nat} {A : Option Addr} (h : ON E C t w (.slice A n cap) xs wr) (hn : 0 < n) : ∃ g, A = some ⟨g, 0, none⟩ ∧ w.heap.size ≤ g ∧ g < wr.heap.size := by
  obtain ⟨fl, h1, _⟩ := h
  rcases id h1.2 with ⟨e, h0⟩ | ⟨g', cap', cur, e, _⟩
  · injection e with e1 e2 e3
    omega
  · injection e with e1 e2 e3
    subst e1
    exact ⟨g', rfl, h1.lt g' rfl⟩
end
/-- a row of one's own behind block B, whose elements reach blocks that are 'ok' -/
def RowQ {α : Type} (E : Elem α) (C : Nat) (t : TypeId) (ok : Nat → Prop) (B : Nat) (v : Value) (xs : List α) (wr : World) : Prop :=
  ∃ fl : List Value, wr.ownsRow B t C v xs.length fl ∧ ∀ j x, xs[j]? = some x → E wr ok x ((fl.drop (j * C)).take C)
section
variable {α : Type} {E : Elem α} {C : Nat} {t : TypeId} {ok : Nat → Prop} {B : Nat} {v : Value} {xs : List α} {w wr w1 : World}
theorem RowQ.keep (hE : Steady E) (h : RowQ E C t ok B v xs wr) (hk : ∀ b, ok b ∨ v.ownBlock = some b → w1.heap[b]? = wr.heap[b]?) : RowQ E C t ok B v xs w1 := by
  obtain ⟨fl, h1, h2⟩ := h
  refine ⟨fl, ⟨h1.1, h1.2.imp id ?_⟩, fun j x hx => hE.keep (h2 j x hx) (fun b hb => hk b (.inl hb)) (fun _ h => h)⟩
  rintro ⟨g, cap, cur, e1, e2, e3, e4⟩
  exact ⟨g, cap, cur, e1, e2, (hk g (.inr (by rw [e1]; rfl))).trans e3, e4⟩
theorem RowQ.on (hE : Steady E) (h : RowQ E C t ok w.heap.size v xs wr) (hb : Below w.heap.size w wr) (hok : ∀ b, ok b → b < wr.heap.size ∧ v.ownBlock ≠ some b) : ON E C t w v xs wr := by
  obtain ⟨fl, h1, h2⟩ := h
  exact ⟨fl, h1, hb, fun j x hx => hE.keep (h2 j x hx) (fun _ _ => rfl) hok⟩
theorem RowQ.own (h : RowQ E C t ok B v xs wr) : ∀ b, v.ownBlock = some b → B ≤ b ∧ b < wr.heap.size := by
  obtain ⟨fl, h1, _⟩ := h
  exact h1.lt
theorem RowQ.form (h : RowQ E C t ok B v xs wr) : ∃ A c, v = .slice A xs.length c ∧ (A = none → c = 0) ∧ xs.length ≤ c := by
  obtain ⟨fl, h1, _⟩ := h
  rcases h1.2 with ⟨hv, h0⟩ | ⟨g, cap, cur, hv, _, _, hc, _⟩
  · exact ⟨none, 0, by rw [hv, h0], fun _ => rfl, by omega⟩
  · exact ⟨_, cap, hv, (fun e => by cases e), hc⟩
/-- its k-th element -/
theorem RowQ.at {A : Option Addr} {n c : Nat} (h : RowQ E C t ok B (.slice A n c) xs wr) {k : Nat} (hk : k < n) : ∃ g x vs, A = some ⟨g, 0, none⟩ ∧ B ≤ g ∧ g < wr.heap.size ∧ xs[k]? = some x ∧ vs.length = C ∧ (∀ i v, vs[i]? = some v → wr.cell? ⟨g, k * C + i, none⟩ = some v) ∧ E wr ok x vs := by
  obtain ⟨fl, h1, h2⟩ := h
  rcases id h1.2 with ⟨e, h0⟩ | ⟨g, cap, cur, e, _⟩
  · injection e with _ e2 _
    omega
  · injection e with e1 e2 e3
    subst e1 e2 e3
    obtain ⟨hb1, hb2⟩ := h1.lt g rfl
    have hx : xs[k]? = some xs[k] := List.getElem?_eq_getElem hk
    have hle : k * C + C ≤ fl.length := by rw [h1.1, ← Nat.succ_mul]; exact Nat.mul_le_mul_right C hk
    refine ⟨g, xs[k], _, rfl, hb1, hb2, hx, by rw [List.length_take, List.length_drop]; omega, fun i v hv => ?_, h2 k _ hx⟩
    have hi : i < C := by
      have := (List.getElem?_eq_some_iff.1 hv).1
      rw [List.length_take] at this
      omega
    rw [List.getElem?_take_of_lt hi, List.getElem?_drop] at hv
    rw [h1.cellAt (k * C + i) (by rw [← h1.1]; omega)]
    exact hv
end
/-- a table's cells are one cell each -/
theorem flat_one {ok : Nat → Prop} {w : World} {l : Tb} {fl : List Value} (h1 : fl.length = l.length * 4) (h : ∀ j x, l[j]? = some x → EH w ok x ((fl.drop (j * 4)).take 4)) : ∀ u ∈ fl, u.oneCell' = true := by
  intro u hu
  obtain ⟨k, hk, rfl⟩ := List.getElem_of_mem hu
  have hj : k / 4 < l.length := by omega
  obtain ⟨A, m, c, hv, _⟩ := h (k / 4) _ (List.getElem?_eq_getElem hj)
  have e : ((fl.drop (k / 4 * 4)).take 4)[k % 4]? = some fl[k] := by
    rw [List.getElem?_take_of_lt (by omega), List.getElem?_drop, show k / 4 * 4 + k % 4 = k by omega, List.getElem?_eq_getElem hk]
  rw [hv] at e
  have h4 : k % 4 < 4 := Nat.mod_lt _ (by omega)
  rcases (show k % 4 = 0 ∨ k % 4 = 1 ∨ k % 4 = 2 ∨ k % 4 = 3 by omega) with h0 | h0 | h0 | h0
  all_goals
    rw [h0] at e
    have e' := Option.some.inj e
    rw [← e']
    rfl

end Go.Proofs.YtbiofikijehlcaaDoor

namespace Go.Proofs.YtbiofikijehlcaaDoor
open Go.RowKit

set_option maxRecDepth 100000 in
set_option maxHeartbeats 2000000 in
/-- a clone of numbers lies in memory of its own -/
theorem clone_any (A : Option Addr) (n c : Nat) (xs : List Int) (w : World) (hr : RI w w.heap.size A n xs) (hnil : A = none → c = 0) (hn : n ≤ 1000) :
    Calls Tryd.prog 44 #[.slice A n c] w fun e w' => ∃ v, e = .returned v ∧ ON EI 1 3 w v xs w' := by
  obtain ⟨i0, hi0, hz0, hz1, hz2⟩ := info_parts int_info
  have HR := Lib.hid hr
  cases A with
  | none =>
    obtain rfl := hnil rfl
    have hn0 : n = 0 := by
      rcases Nat.eq_zero_or_pos n with h0 | h0
      · exact h0
      · obtain ⟨b, off, e', _⟩ := hr.2 h0; cases e'
    subst hn0
    have hxs : Hid (xs = []) := Lib.hid (List.eq_nil_of_length_eq_zero hr.1)
    have q22 : ∀ (w : World) (a : Option Addr) (n c n' c' : Nat), (binOp .eql 29 (.slice a n c) (.slice none n' c')).run Tryd.prog w = .ok (.bool a.isNone) w := fun w a n c n' c' => Lib.run_eql_slice_nil w _ _ a n c n' c' Tryd.underlying29
    clear hr hnil hn
    go_enter Tryd.func44, Tryd.ntmps44
    go_wp2
    go_ret
    exact ⟨_, rfl, by rw [hxs.out]; exact ON.nil _⟩
  | some ad =>
    have q22 : ∀ (w : World) (a : Option Addr) (n c n' c' : Nat), (binOp .eql 29 (.slice a n c) (.slice none n' c')).run Tryd.prog w = .ok (.bool a.isNone) w := fun w a n c n' c' => Lib.run_eql_slice_nil w _ _ a n c n' c' Tryd.underlying29
    clear hr hnil
    have HR1 : Hid (RI (w.alloc (.cells #[] 3)) (w.alloc (.cells #[] 3)).heap.size (some ad) n xs) := Lib.hid (HR.out.next ((Below.refl _ _).alloc (Nat.le_refl _) _))
    go_enter Tryd.func44, Tryd.ntmps44
    go_wp2_with (at_builtin; refine wpList_append_RI _ rfl _ _ 29 rfl w.heap.size 3 i0 (.int .i64 0) 8 Tryd.underlying29 hi0 hz0 hz1 hz2 rfl (.slice (some ⟨w.heap.size, 0, none⟩) 0 0) 0 [] rfl (World.ownsRow_made w #[] 0 (Nat.le_refl _) (Nat.zero_le _) rfl) _ _ n c xs rfl HR1.out (fun e => by cases e) (by unfold maxLen; omega) (by omega) (by simp) ?_; intro v' w1 hown hgrow; refine Hid.out ?_)
    refine Lib.hid ?_
    have HO : Hid (ON EI 1 3 w v' xs w1) := Lib.hid (own_on (by have h := hown; have hl := HR.out.1; rw [Nat.zero_add, List.nil_append] at h; rw [hl]; exact h) (((Below.refl _ w).alloc (Nat.le_refl _) _).grown hgrow (by simp) (by intro k hk; have hk' : w.heap.size = k := (by simpa [Value.ownBlock] using hk); omega)))
    clear hown hgrow
    go_wp2
    go_ret
    exact ⟨_, rfl, HO.out⟩


end Go.Proofs.YtbiofikijehlcaaDoor

namespace Go.Proofs.YtbiofikijehlcaaDoor
open Go.RowKit

theorem BoxH.set {wr : World} {g j : Nat} {h h' : Hd} {A A' : Option Addr} {m c m' c' : Nat} {v : Value} (x : BoxH wr g h A m c) (e : (#[.int .i64 h.id, .slice A m c, .int .i64 h.frm, .int .i64 h.to] : Array Value).setIfInBounds j v = #[.int .i64 h'.id, .slice A' m' c', .int .i64 h'.frm, .int .i64 h'.to]) : BoxH (wr.setCell ⟨g, j, none⟩ v) g h' A' m' c' := by
  refine ⟨by simpa [World.setCell] using x.lt, ?_⟩
  show (wr.heap.modify g _)[g]? = _
  rw [Array.getElem?_modify, if_pos rfl, x.at']
  unfold hO
  simp only [Option.map_some]
  rw [← e]
  rfl
theorem BoxH.other {wr : World} {g b j : Nat} {h : Hd} {A : Option Addr} {m c : Nat} {v : Value} (x : BoxH wr g h A m c) (hb : g ≠ b) : BoxH (wr.setCell ⟨b, j, none⟩ v) g h A m c :=
  ⟨by simpa [World.setCell] using x.lt, (Below.heap_setCell _ _ _ _ hb).trans x.at'⟩

theorem own_keep {w wr : World} {B C n : Nat} {t : TypeId} {v : Value} {fl : List Value} (h : wr.ownsRow B t C v n fl) (hk : ∀ b, B ≤ b → w.heap[b]? = wr.heap[b]?) : w.ownsRow B t C v n fl := by
  refine ⟨h.1, h.2.imp id ?_⟩
  rintro ⟨g, cap, cur, e1, e2, e3, e4⟩
  exact ⟨g, cap, cur, e1, e2, (hk g e2).trans e3, e4⟩

/-- numbers in a row of one's own, which lies behind what was there -/
theorem rn_own {w : World} {base n c : Nat} {A : Option Addr} {t : TypeId} {xs : List Int} (h : w.ownsRow base t 1 (.slice A n c) n (xs.map (Value.int .i64))) : RN EI 1 w (fun b => base ≤ b ∧ b < w.heap.size) A n xs := by
  have hl : xs.length = n := by have := h.1; rw [List.length_map] at this; omega
  refine ⟨hl, fun h0 => ?_⟩
  rcases h.2 with ⟨_, e⟩ | ⟨g, cap, cur, e, _⟩
  · omega
  · injection e with e1 e2 e3
    subst e1 e3
    refine ⟨g, 0, rfl, h.lt g rfl, fun j x hx => ⟨[.int .i64 x], rfl, fun i v hv => ?_, rfl⟩⟩
    have hj := (List.getElem?_eq_some_iff.1 hx).1
    have hi : i = 0 := by have := (List.getElem?_eq_some_iff.1 hv).1; simpa using this
    subst hi
    have hv' : Value.int .i64 x = v := by simpa using hv
    subst hv'
    rw [show 0 + (j * 1 + 0) = j by omega, h.cellAt j (by omega), List.getElem?_map, hx]
    rfl

set_option maxRecDepth 100000 in
set_option maxHeartbeats 8000000 in
theorem own_any (A : Option Addr) (m c : Nat) (h : Hd) (w : World) (hh : HAsk w A m c h) (hm : m ≤ 1000) :
    Calls Tryd.prog 27 #[.agg #[.int .i64 h.id, .slice A m c, .int .i64 h.frm, .int .i64 h.to]] w fun e w' => (∃ A2 c2, e = .returned (.agg #[.int .i64 h.id, .slice A2 m c2, .int .i64 h.frm, .int .i64 h.to]) ∧ HAsk w' A2 m c2 h ∧ EH w' (fun b => w.heap.size ≤ b ∧ b < w'.heap.size) h [.int .i64 h.id, .slice A2 m c2, .int .i64 h.frm, .int .i64 h.to]) ∧ Below w.heap.size w w' := by
  obtain ⟨W, hW⟩ : ∃ W, W = (w.alloc (hO h A m c)).alloc (hO hd0 none 0 0) := ⟨_, rfl⟩
  have hb0 : Below w.heap.size w W := by rw [hW]; exact ((Below.refl _ _).alloc (Nat.le_refl _) _).alloc (by simp) _
  have BX : Hid (BoxH W w.heap.size h A m c) := Lib.hid (by
    rw [hW]; exact (boxH_new w h A m c).next ((Below.refl _ _).alloc (Nat.le_refl _) _))
  have BR : Hid (BoxH W (w.heap.size + 1) hd0 none 0 0) := Lib.hid (by
    have := boxH_new (w.alloc (hO h A m c)) hd0 none 0 0
    rw [World.size_alloc] at this
    rw [hW]; exact this)
  have HB := Lib.hid hb0
  have HH := Lib.hid (hh.next hb0)
  have HSW : Hid (W.heap.size = w.heap.size + 2) := Lib.hid (by rw [hW]; simp)
  unfold hO at hW
  have hml : m = h.things.length := hh.reads.1.symm
  have HML := Lib.hid hml
  clear hb0 hh hml
  have q0 := BX.out.c0
  have q1 := BX.out.c1
  have q2 := BX.out.c2
  have q3 := BX.out.c3
  go_enter Tryd.func27, Tryd.ntmps27
  go_wp2_with fail
  simp only [hd0] at hW
  rw [← hW]
  clear hW
  refine (clone_any _ _ _ _ _ HH.out.reads HH.out.nil hm).mono ?_
  rintro e w1 ⟨v, rfl, hon⟩
  obtain ⟨A2, c2, rfl, hn2, hc2⟩ := hon.form
  have hb := hon.below
  have HB1 := Lib.hid (HB.out.trans (hb.mono HB.out.size))
  have BX1 := Lib.hid (BX.out.next hb)
  have BR1 := Lib.hid (BR.out.next hb)
  have HO : Hid (w1.ownsRow W.heap.size 3 1 (.slice A2 h.things.length c2) h.things.length (h.things.map (Value.int .i64))) := Lib.hid (on_own hon).1
  have HF : Hid ((A2 = none → c2 = 0) ∧ h.things.length ≤ c2) := Lib.hid ⟨hn2, hc2⟩
  have HSZ : Hid (w.heap.size + 2 = W.heap.size) := Lib.hid (by rw [HSW.out])
  have hlen : h.things.length = m := HML.out.symm
  rw [hlen] at HO HF ⊢
  clear hon hb hn2 hc2 hlen q0 q1 q2 q3
  have q0 := BX1.out.c0
  have q1 := BX1.out.c1
  have q2 := BX1.out.c2
  have q3 := BX1.out.c3
  have z0 := BX1.out.frozen 0
  have z1 := BX1.out.frozen 1
  have p0 := BR1.out.c0
  have p1 := BR1.out.c1
  have p2 := BR1.out.c2
  have p3 := BR1.out.c3
  have y0 := BR1.out.frozen 0
  have y1 := BR1.out.frozen 1
  have y2 := BR1.out.frozen 2
  have y3 := BR1.out.frozen 3
  go_wp2
  have b1 : BoxH ((((w1.setCell ⟨w.heap.size, 1, none⟩ (.slice A2 m c2)).setCell ⟨w.heap.size + 1, 0, none⟩ (.int .i64 h.id)).setCell ⟨w.heap.size + 1, 1, none⟩ (.slice A2 m c2)).setCell ⟨w.heap.size + 1, 2, none⟩ (.int .i64 h.frm) |>.setCell ⟨w.heap.size + 1, 3, none⟩ (.int .i64 h.to)) (w.heap.size + 1) h A2 m c2 :=
    (((((BR1.out.other (by omega)).set (h' := ⟨h.id, [], 0, 0⟩) rfl).set (h' := ⟨h.id, [], 0, 0⟩) rfl).set (h' := ⟨h.id, [], h.frm, 0⟩) rfl).set (h' := h) rfl)
  have hbel : Below w.heap.size w ((((w1.setCell ⟨w.heap.size, 1, none⟩ (.slice A2 m c2)).setCell ⟨w.heap.size + 1, 0, none⟩ (.int .i64 h.id)).setCell ⟨w.heap.size + 1, 1, none⟩ (.slice A2 m c2)).setCell ⟨w.heap.size + 1, 2, none⟩ (.int .i64 h.frm) |>.setCell ⟨w.heap.size + 1, 3, none⟩ (.int .i64 h.to)) :=
    ((((HB1.out.setCell (p := ⟨_, _, none⟩) (Nat.le_refl _) _).setCell (p := ⟨_, _, none⟩) (Nat.le_succ _) _).setCell (p := ⟨_, _, none⟩) (Nat.le_succ _) _).setCell (p := ⟨_, _, none⟩) (Nat.le_succ _) _).setCell (p := ⟨_, _, none⟩) (Nat.le_succ _) _
  have hown : ((((w1.setCell ⟨w.heap.size, 1, none⟩ (.slice A2 m c2)).setCell ⟨w.heap.size + 1, 0, none⟩ (.int .i64 h.id)).setCell ⟨w.heap.size + 1, 1, none⟩ (.slice A2 m c2)).setCell ⟨w.heap.size + 1, 2, none⟩ (.int .i64 h.frm) |>.setCell ⟨w.heap.size + 1, 3, none⟩ (.int .i64 h.to)).ownsRow W.heap.size 3 1 (.slice A2 m c2) m (h.things.map (Value.int .i64)) :=
    own_keep HO.out fun b hb => by
      have := HSZ.out
      rw [Below.heap_setCell _ _ _ _ (show b ≠ w.heap.size + 1 by omega), Below.heap_setCell _ _ _ _ (show b ≠ w.heap.size + 1 by omega), Below.heap_setCell _ _ _ _ (show b ≠ w.heap.size + 1 by omega), Below.heap_setCell _ _ _ _ (show b ≠ w.heap.size + 1 by omega), Below.heap_setCell _ _ _ _ (show b ≠ w.heap.size by omega)]
  have r0 := b1.c0
  have r1 := b1.c1
  have r2 := b1.c2
  have r3 := b1.c3
  refine bodyPost_ret (v := .agg #[.int .i64 h.id, .slice A2 m c2, .int .i64 h.frm, .int .i64 h.to]) (by simp [results, Tryd.results27, go_sem, r0, r1, r2, r3]) rfl ⟨⟨A2, c2, rfl, ⟨RI.of_own hown, HF.out.1, HF.out.2, by unfold maxLen; omega, HH.out.int⟩, ⟨A2, m, c2, rfl, (rn_own hown).keep ei_steady (fun _ _ => rfl) (fun b hb => ⟨by have := HSZ.out; omega, hb.2⟩), HF.out.1, HF.out.2, by unfold maxLen; omega, HH.out.int⟩⟩, hbel⟩

set_option maxRecDepth 100000 in
set_option maxHeartbeats 2000000 in
/-- a clone of a table lies in memory of its own; what its holdings reach is as it was -/
theorem cloneQ_any (B : Nat) (A : Option Addr) (n c : Nat) (l : Tb) (w : World) (hB : B ≤ w.heap.size) (hr : RT w B A n l) (hnil : A = none → c = 0) (hn : n ≤ 1000) :
    Calls Tryd.prog 31 #[.slice A n c] w fun e w' => ∃ v, e = .returned v ∧ Below w.heap.size w w' ∧ RowQ EH 4 37 (Lt B) w.heap.size v l w' := by
  obtain ⟨i0, hi0, hz0, hz1, hz2⟩ : ∃ i, Tryd.prog.info? 37 = some i ∧ i.zero = some (.agg #[.int .i64 0, .slice none 0 0, .int .i64 0, .int .i64 0]) ∧ i.size = 4 ∧ i.bytes = 48 := info_parts held_info
  have HR := Lib.hid hr
  have q22 : ∀ (w : World) (a : Option Addr) (n c n' c' : Nat), (binOp .eql 22 (.slice a n c) (.slice none n' c')).run Tryd.prog w = .ok (.bool a.isNone) w := fun w a n c n' c' => Lib.run_eql_slice_nil w _ _ a n c n' c' Tryd.underlying22
  cases A with
  | none =>
    obtain rfl := hnil rfl
    have hn0 : n = 0 := by
      rcases Nat.eq_zero_or_pos n with h0 | h0
      · exact h0
      · obtain ⟨b, off, e', _⟩ := hr.2 h0; cases e'
    subst hn0
    have hxs : Hid (l = []) := Lib.hid (List.eq_nil_of_length_eq_zero hr.1)
    clear hr hnil hn
    go_enter Tryd.func31, Tryd.ntmps31
    go_wp2
    go_ret
    exact ⟨_, rfl, Below.refl _ _, by rw [hxs.out]; exact ⟨[], by simpa using World.ownsRow_nil w w.heap.size 37 4, fun j x h => by simp at h⟩⟩
  | some ad =>
    obtain ⟨fl, f1, f2, f3⟩ : ∃ fl : List Value, fl.length = n * 4 ∧ (∀ j u, fl[j]? = some u → w.cell? (ad.add j) = some u) ∧ ∀ j x, l[j]? = some x → EH w (Lt B) x ((fl.drop (j * 4)).take 4) := by
      rcases Nat.eq_zero_or_pos n with h0 | h0
      · subst h0
        have : l = [] := List.eq_nil_of_length_eq_zero hr.1
        subst this
        exact ⟨[], rfl, fun j u h => by simp at h, fun j x h => by simp at h⟩
      · obtain ⟨b, off, e, hb, hc⟩ := hr.2 h0
        injection e with e
        subst e
        obtain ⟨fl, k1, k2, k3⟩ := flat_of (C := 4) l off hc
        exact ⟨fl, by rw [k1, hr.1], fun j u hu => by rw [show (⟨b, off, none⟩ : Addr).add j = ⟨b, off + j, none⟩ by unfold Addr.add; split <;> simp_all]; exact k2 j u hu, k3⟩
    have F1 := Lib.hid f1
    have F2 : Hid (∀ j u, fl[j]? = some u → (w.alloc (.cells #[] 37)).cell? (ad.add j) = some u) := Lib.hid (fun j u hu => by
      have h1 := f2 j u hu
      have hlt : (ad.add j).block < w.heap.size := World.block_lt_of_cell? _ _ h1
      exact (((Below.refl _ w).alloc (Nat.le_refl _) _).cell hlt).trans h1)
    have F3 := Lib.hid f3
    have FO : Hid (∀ u ∈ fl, u.oneCell' = true) := Lib.hid (flat_one (by rw [f1, hr.1]) f3)
    have HL := Lib.hid hr.1
    clear hr hnil f1 f2 f3
    go_enter Tryd.func31, Tryd.ntmps31
    go_wp2_with (at_builtin; refine wpList_append_own _ rfl _ _ 22 rfl w.heap.size 37 i0 (.agg #[.int .i64 0, .slice none 0 0, .int .i64 0, .int .i64 0]) 4 48 Tryd.underlying22 hi0 hz0 hz1 hz2 rfl (by decide) (.slice (some ⟨w.heap.size, 0, none⟩) 0 0) 0 [] rfl (World.ownsRow_made w #[] 0 (Nat.le_refl _) (Nat.zero_le _) rfl) ad n c fl rfl F1.out F2.out FO.out (by unfold maxLen; omega) (by omega) (by simp) ?_; intro v' w1 hown hgrow _; refine Hid.out ?_)
    refine Lib.hid ?_
    have hb1 : Below w.heap.size w w1 := ((Below.refl _ w).alloc (Nat.le_refl _) _).grown hgrow (by simp) (by intro k hk; have hk' : w.heap.size = k := (by simpa [Value.ownBlock] using hk); omega)
    have HO : Hid (RowQ EH 4 37 (Lt B) w.heap.size v' l w1) := Lib.hid ⟨fl, by have h := hown; rw [Nat.zero_add, List.nil_append] at h; rw [HL.out]; exact h, fun j x hx => eh_steady.keep (F3.out j x hx) (fun b hb => hb1.block b (Nat.lt_of_lt_of_le hb hB)) (fun _ h => h)⟩
    have HB1 := Lib.hid hb1
    clear hown hgrow hb1
    go_wp2
    go_ret
    exact ⟨_, rfl, HB1.out, HO.out⟩

theorem cloneH_any (A : Option Addr) (n c : Nat) (l : Tb) (w : World) (hr : RT w w.heap.size A n l) (hnil : A = none → c = 0) (hn : n ≤ 1000) :
    Calls Tryd.prog 31 #[.slice A n c] w fun e w' => ∃ v, e = .returned v ∧ ON EH 4 37 w v l w' :=
  (cloneQ_any w.heap.size A n c l w (Nat.le_refl _) hr hnil hn).mono fun _ _ ⟨v, h1, h2, h3⟩ => ⟨v, h1, h3.on eh_steady h2 (fun b hb => ⟨Nat.lt_of_lt_of_le hb h2.size, fun e => by
    have := (h3.own b e).1
    have hb' : b < w.heap.size := hb
    omega⟩)⟩
theorem set_getD {l : Tb} {k : Nat} (hk : k < l.length) : l.set k (l.getD k hd0) = l := by
  rw [List.getD, List.getElem?_eq_getElem hk]
  exact List.set_getElem_self hk
set_option maxRecDepth 100000 in
set_option maxHeartbeats 8000000 in
theorem heldSame_any (A : Option Addr) (n c : Nat) (l : Tb) (w : World) (hr : RT w w.heap.size A n l) (hnil : A = none → c = 0) (hf : FewT l) :
    Calls Tryd.prog 15 #[.slice A n c] w fun e w' => ∃ v, e = .returned v ∧ ON EH 4 37 w v l w' := by
  have HL := Lib.hid hr.len
  have HF := Lib.hid hf
  have hn : n ≤ 100 := by rw [← hr.len]; exact hf.1
  have HC := Lib.hid (cloneH_any A n c l w hr hnil (by omega))
  clear hr hnil hf
  go_enter Tryd.func15, Tryd.ntmps15
  go_wp2_with fail
  refine HC.out.mono ?_
  rintro e w1 ⟨v, rfl, hon⟩
  obtain ⟨A1, c1, rfl, _, _⟩ := hon.form
  have HO := Lib.hid hon
  rw [HL.out] at HO ⊢
  clear hon
  go_wp2
  go_loopw [10] (fun i wr => ∃ k : Nat, k ≤ n ∧ i = .int .i64 k ∧ ON EH 4 37 w (.slice A1 n c1) l wr) (fun i _ => n - (intOf i).toNat)
  case atStart => exact ⟨0, Nat.zero_le _, rfl, HO.out⟩
  case round =>
    obtain ⟨k, hk, rfl, hrel⟩ := hrel
    have HK := Lib.hid hrel
    have HB := Lib.hid hrel.below
    clear hrel
    by_cases hlt : k < n
    · have hkl : k < l.length := by rw [HL.out]; exact hlt
      obtain ⟨b, off, A2, m2, c2, e, hbl, c0, c1', c2', c3', hx⟩ := RT.one (HK.out.reads eh_steady (by omega) rfl) hlt
      obtain ⟨g, hg, hgb, hgl⟩ := HK.out.head (by omega)
      have hmx := HF.out.at hkl
      have hset := set_getD hkl
      rw [hg] at e
      injection e with e
      injection e with e1 e2
      subst e1 e2 hg
      obtain ⟨x, hxx⟩ : ∃ x, l.getD k hd0 = x := ⟨_, rfl⟩
      rw [hxx] at c0 c2' c3' hx hmx hset
      have HS := Lib.hid hset
      have hm2 : m2 ≤ 1000 := by have := hx.reads.1; omega
      have hba : Below wr.heap.size wr (wr.alloc (hO x A2 m2 c2)) := (Below.refl _ _).alloc (Nat.le_refl _) _
      have HX := Lib.hid (hx.next hba)
      have HK1 := Lib.hid (HK.out.next eh_steady hba)
      have HBX : Hid (BoxH (wr.alloc (hO x A2 m2 c2)) wr.heap.size x A2 m2 c2) := Lib.hid (boxH_new wr x A2 m2 c2)
      have HGL : Hid (g < (wr.alloc (hO x A2 m2 c2)).heap.size) := Lib.hid (by simp; omega)
      unfold hO at HX HK1 HBX HGL
      have q0 := HBX.out.c0
      have q1 := HBX.out.c1
      have q2 := HBX.out.c2
      have q3 := HBX.out.c3
      simp only [Nat.zero_add] at c0 c1' c2' c3'
      clear hba hx hxx hmx hset hbl hgb hgl hkl
      go_wp2_with fail
      refine (own_any A2 m2 c2 x _ HX.out hm2).mono ?_
      rintro e w5 ⟨⟨A5, c5, rfl, hx5, he5⟩, hb5⟩
      have HK5 := Lib.hid (HK1.out.next eh_steady hb5)
      have HE5 : Hid (EH w5 (fun b => b < w5.heap.size ∧ b ≠ g) x _) := Lib.hid (eh_steady.keep he5 (fun _ _ => rfl) (fun b hb => ⟨hb.2, fun e => by have h1 := hb.1; have h2 := HGL.out; omega⟩))
      clear hx5 he5 hb5 q0 q1 q2 q3
      have HK6 := Lib.hid (HK5.out.set4 eh_steady (i := k) (by rw [HL.out]; exact hlt) HE5.out)
      rw [HS.out] at HK6
      obtain ⟨⟨u0, q0⟩, z0⟩ := HK5.out.block (i := k * 4) (by omega)
      obtain ⟨⟨u1, q1⟩, z1⟩ := HK5.out.block (i := k * 4 + 1) (by omega)
      obtain ⟨⟨u2, q2⟩, z2⟩ := HK5.out.block (i := k * 4 + 2) (by omega)
      obtain ⟨⟨u3, q3⟩, z3⟩ := HK5.out.block (i := k * 4 + 3) (by omega)
      go_wp2
      go_roundw
      case rel => exact ⟨k + 1, by omega, by go_num, HK6.out⟩
      case measure => simp [intOf]; omega
    · have hkn : k = n := by omega
      go_wp2
      go_ret
      exact ⟨_, rfl, HK.out⟩

end Go.Proofs.YtbiofikijehlcaaDoor

namespace Go.Proofs.YtbiofikijehlcaaDoor
open Go.RowKit

def nearZ (x : Int) : Int := if x < 0 then 0 else if 4611686018427387904 < x then 4611686018427387904 else x
def plusZ (t l : Int) : Int := if 4611686018427387904 < nearZ t + nearZ l then 4611686018427387904 else nearZ t + nearZ l
theorem nearZ_range (x : Int) : 0 ≤ nearZ x ∧ nearZ x ≤ 4611686018427387904 := by unfold nearZ; repeat' split; all_goals omega



end Go.Proofs.YtbiofikijehlcaaDoor

namespace Go.Proofs.YtbiofikijehlcaaDoor
open Go.RowKit

def withinB (a b c d : Int) : Bool := decide (b ≤ a ∨ (c ≤ a ∧ b ≤ d))
def timeB (t : Int) : Bool := decide (0 ≤ t ∧ t ≤ 4611686018427387904)

theorem ret_bl {a b : Bool} (h : b = a) : Ending.returned (.bool a) = .returned (.bool b) := by rw [h]


theorem whenRight_any (t : Int) (w : World) : Calls Tryd.prog 37 #[.int .i64 t] w fun e w' => e = .returned (.bool (timeB t)) ∧ w = w' := by
  by_cases h : 0 ≤ t
  · by_cases h2 : t ≤ 4611686018427387904
    · have e : Hid (timeB t = true) := Lib.hid (by unfold timeB; exact decide_eq_true ⟨h, h2⟩)
      go_enter Tryd.func37, Tryd.ntmps37
      go_wp2
      go_ret
      exact ⟨ret_bl e.out, rfl⟩
    · have e : Hid (timeB t = false) := Lib.hid (by unfold timeB; exact decide_eq_false (fun h' => h2 h'.2))
      go_enter Tryd.func37, Tryd.ntmps37
      go_wp2
      go_ret
      exact ⟨ret_bl e.out, rfl⟩
  · have e : Hid (timeB t = false) := Lib.hid (by unfold timeB; exact decide_eq_false (fun h' => h h'.1))
    go_enter Tryd.func37, Tryd.ntmps37
    go_wp2
    go_ret
    exact ⟨ret_bl e.out, rfl⟩



theorem plusZ_i64 (t l : Int) : I64 (plusZ t l) := by
  have r1 := nearZ_range t
  have r2 := nearZ_range l
  unfold I64 plusZ
  split <;> omega

theorem whenRight_b (t : Int) (w : World) (b : Bool) (h : timeB t = b) : Calls Tryd.prog 37 #[.int .i64 t] w fun e w' => e = .returned (.bool b) ∧ w = w' := by
  subst h
  exact whenRight_any t w

end Go.Proofs.YtbiofikijehlcaaDoor
