/- The statement QueueGrows, as a walk over the contracts. Written by gen/gen_queuelaws.py. -/
import Derived.Deep.DeepCutAuto
import Derived.Deep.LoopGhost
import Derived.Test.YtimgdlddfnglaaaMg08
import Derived.Test.YtimgdlddfnglaaaZQueueGrowMath
import Derived.Test.YtimgdlddfnglaaaMg15
namespace Go.Proofs.Ytimgdlddfnglaaa
open Go.RowKit

/-- something that is done with a queue -/
structure Ac where
  what : Int
  at' : Int
  spec : Sp
  need : Int
  more : Int
/-- eleven cells -/
def EA : Elem Ac := fun _ _ x vs => vs = [.int .i64 x.what, .int .u8 x.at', .int .i64 x.spec.nodes, .int .i64 x.spec.cores, .int .i64 x.spec.gpus, .string x.spec.tag, .bool x.spec.whole, .int .i64 x.spec.long, .int .i64 x.spec.prio, .int .u8 x.need, .int .u8 x.more] ∧ I64 x.what ∧ (0 ≤ x.at' ∧ x.at' ≤ 255) ∧ SAsk x.spec ∧ (0 ≤ x.need ∧ x.need ≤ 255) ∧ 0 ≤ x.more ∧ x.more ≤ 255
theorem ea_steady : Steady EA := ⟨fun h _ _ => h⟩
structure AList (w : World) (A : Option Addr) (n c : Nat) (l : List Ac) : Prop where
  reads : RN EA 11 w (Lt w.heap.size) A n l
  nil : A = none → c = 0
  cap : n ≤ c
  few : n ≤ maxLen
theorem AList.next {w w' : World} {A : Option Addr} {n c : Nat} {l : List Ac} (h : AList w A n c l) (hb : Below w.heap.size w w') : AList w' A n c l := ⟨RN.next ea_steady h.reads hb, h.nil, h.cap, h.few⟩
theorem AList.one {w : World} {A : Option Addr} {n c k : Nat} {l : List Ac} (h : AList w A n c l) (hk : k < n) : ∃ (b off : Nat) (x : Ac), A = some ⟨b, off, none⟩ ∧ b < w.heap.size ∧ (w.cell? ⟨b, off + k * 11, none⟩ = some (.int .i64 x.what) ∧ w.cell? ⟨b, off + k * 11 + 1, none⟩ = some (.int .u8 x.at') ∧ w.cell? ⟨b, off + k * 11 + 2, none⟩ = some (.int .i64 x.spec.nodes) ∧ w.cell? ⟨b, off + k * 11 + 3, none⟩ = some (.int .i64 x.spec.cores) ∧ w.cell? ⟨b, off + k * 11 + 4, none⟩ = some (.int .i64 x.spec.gpus) ∧ w.cell? ⟨b, off + k * 11 + 5, none⟩ = some (.string x.spec.tag) ∧ w.cell? ⟨b, off + k * 11 + 6, none⟩ = some (.bool x.spec.whole) ∧ w.cell? ⟨b, off + k * 11 + 7, none⟩ = some (.int .i64 x.spec.long) ∧ w.cell? ⟨b, off + k * 11 + 8, none⟩ = some (.int .i64 x.spec.prio) ∧ w.cell? ⟨b, off + k * 11 + 9, none⟩ = some (.int .u8 x.need) ∧ w.cell? ⟨b, off + k * 11 + 10, none⟩ = some (.int .u8 x.more)) ∧ I64 x.what ∧ (0 ≤ x.at' ∧ x.at' ≤ 255) ∧ SAsk x.spec ∧ (0 ≤ x.need ∧ x.need ≤ 255) ∧ 0 ≤ x.more ∧ x.more ≤ 255 := by
  have hl : k < l.length := by rw [h.reads.1]; exact hk
  obtain ⟨b, off, vs, e, hb, _, hc, hv, h1⟩ := RN.at h.reads (List.getElem?_eq_getElem hl)
  subst hv
  exact ⟨b, off, l[k], e, hb, ⟨hc 0 _ rfl, hc 1 _ rfl, hc 2 _ rfl, hc 3 _ rfl, hc 4 _ rfl, hc 5 _ rfl, hc 6 _ rfl, hc 7 _ rfl, hc 8 _ rfl, hc 9 _ rfl, hc 10 _ rfl⟩, h1⟩
def aO (x : Ac) : Obj := .cells #[.int .i64 x.what, .int .u8 x.at', .int .i64 x.spec.nodes, .int .i64 x.spec.cores, .int .i64 x.spec.gpus, .string x.spec.tag, .bool x.spec.whole, .int .i64 x.spec.long, .int .i64 x.spec.prio, .int .u8 x.need, .int .u8 x.more] 38
structure BoxA (wr : World) (g : Nat) (x : Ac) : Prop where
  lt : g < wr.heap.size
  at' : wr.heap[g]? = some (aO x)
section
variable {wr w' : World} {g : Nat} {x : Ac}
theorem BoxA.next (h : BoxA wr g x) (hb : Below wr.heap.size wr w') : BoxA w' g x := ⟨Nat.lt_of_lt_of_le h.lt hb.size, (hb.block _ h.lt).trans h.at'⟩
theorem boxA_new (w : World) (x : Ac) : BoxA (w.alloc (aO x)) w.heap.size x := ⟨by simp, heap_alloc_new w _⟩
theorem BoxA.c0 (h : BoxA wr g x) : wr.cell? ⟨g, 0, none⟩ = some (.int .i64 x.what) := (cell_of_row wr g 0 _ _ (0, 0) h.at').trans rfl
theorem BoxA.c1 (h : BoxA wr g x) : wr.cell? ⟨g, 1, none⟩ = some (.int .u8 x.at') := (cell_of_row wr g 1 _ _ (0, 0) h.at').trans rfl
theorem BoxA.c2 (h : BoxA wr g x) : wr.cell? ⟨g, 2, none⟩ = some (.int .i64 x.spec.nodes) := (cell_of_row wr g 2 _ _ (0, 0) h.at').trans rfl
theorem BoxA.c3 (h : BoxA wr g x) : wr.cell? ⟨g, 3, none⟩ = some (.int .i64 x.spec.cores) := (cell_of_row wr g 3 _ _ (0, 0) h.at').trans rfl
theorem BoxA.c4 (h : BoxA wr g x) : wr.cell? ⟨g, 4, none⟩ = some (.int .i64 x.spec.gpus) := (cell_of_row wr g 4 _ _ (0, 0) h.at').trans rfl
theorem BoxA.c5 (h : BoxA wr g x) : wr.cell? ⟨g, 5, none⟩ = some (.string x.spec.tag) := (cell_of_row wr g 5 _ _ (0, 0) h.at').trans rfl
theorem BoxA.c6 (h : BoxA wr g x) : wr.cell? ⟨g, 6, none⟩ = some (.bool x.spec.whole) := (cell_of_row wr g 6 _ _ (0, 0) h.at').trans rfl
theorem BoxA.c7 (h : BoxA wr g x) : wr.cell? ⟨g, 7, none⟩ = some (.int .i64 x.spec.long) := (cell_of_row wr g 7 _ _ (0, 0) h.at').trans rfl
theorem BoxA.c8 (h : BoxA wr g x) : wr.cell? ⟨g, 8, none⟩ = some (.int .i64 x.spec.prio) := (cell_of_row wr g 8 _ _ (0, 0) h.at').trans rfl
theorem BoxA.c9 (h : BoxA wr g x) : wr.cell? ⟨g, 9, none⟩ = some (.int .u8 x.need) := (cell_of_row wr g 9 _ _ (0, 0) h.at').trans rfl
theorem BoxA.c10 (h : BoxA wr g x) : wr.cell? ⟨g, 10, none⟩ = some (.int .u8 x.more) := (cell_of_row wr g 10 _ _ (0, 0) h.at').trans rfl
end
/-- what layer 11's Over answers -/
def OverOk : Prop := ∀ (s : Int) (w : World), I64 s → Calls Try.prog 20 #[.int .i64 s] w (fun e w' => e = .returned (.bool (overJ s)) ∧ Below w.heap.size w w')
theorem over_c (H : OverOk) {s : Int} {w : World} {v : Bool} (hs : I64 s) (e : overJ s = v) : Calls Try.prog 20 #[.int .i64 s] w (fun e w' => e = .returned (.bool v) ∧ Below w.heap.size w w') := by
  subst e; exact H s w hs
/-- a number reckoned into a length -/
theorem rem_place {x : Int} {n : Nat} (h0 : 0 ≤ x) (hn : 0 < n) : ∃ p : Nat, p < n ∧ Int.tmod x n = p := by
  refine ⟨x.toNat % n, Nat.mod_lt _ hn, ?_⟩
  obtain ⟨y, rfl⟩ : ∃ y : Nat, x = y := ⟨x.toNat, by omega⟩
  rw [Int.toNat_natCast]
  exact Int.ofNat_tmod y n
set_option maxRecDepth 100000 in
set_option maxHeartbeats 200000000 in
theorem queueGrows_walk (H : QueueOk) (HO : OverOk) (AL : Option Addr) (nL cL : Nat) (acts : List Ac) (w : World) (hl : AList w AL nL cL acts) : Calls Try.prog 5 #[.slice AL nL cL] w fun e w' => e = .returned (.bool true) ∧ Below w.heap.size w w' := by
  have HB := Lib.hid (Below.refl w.heap.size w)
  have LA := Lib.hid hl
  have hfew := hl.few
  unfold maxLen at hfew
  clear hl
  go_enter Try.func5, Try.ntmps5
  go_wp2_with fail
  refine (awake12_any H _).mono ?_
  rintro e w1 ⟨rfl, hb⟩
  have HBq := Lib.hid (HB.out.trans (hb.mono HB.out.size))
  clear HB
  have HB := HBq
  clear HBq
  have LAq := Lib.hid (LA.out.next hb)
  clear LA
  have LA := LAq
  clear LAq
  clear hb
  have HW1 := Lib.hid (Below.refl w1.heap.size w1)
  go_wp2
  go_loopg [3, 4, 5] 40 (fun g qv nv iv wr => ∃ (i : Nat) (nw : Int) (Aq : Option Addr) (nq cq : Nat) (q : Qu), qv = .slice Aq nq cq ∧ nv = .int .i64 nw ∧ iv = .int .i64 i ∧ g = 40 - i ∧ i ≤ 40 ∧ i ≤ nL ∧ (0 ≤ nw ∧ nw ≤ 255 * i) ∧ QAsk wr Aq nq cq q ∧ RightQ q ∧ q.length ≤ i ∧ Below w1.heap.size w1 wr)
  case atStart => exact ⟨0, 0, none, 0, 0, [], rfl, rfl, rfl, rfl, by omega, Nat.zero_le _, ⟨by omega, by omega⟩, qask_nil _, right_nil, Nat.le_refl _, HW1.out⟩
  case round =>
    obtain ⟨i, nw, Aq, nq, cq, q, rfl, rfl, rfl, rfl, hi40, hiL, hnw, hq, hqr, hql, hb⟩ := hrel
    clear HW1
    have HW1 := Lib.hid hb
    have HBq := Lib.hid (HB.out.trans (hb.mono HB.out.size))
    clear HB
    have HB := HBq
    clear HBq
    have LAq := Lib.hid (LA.out.next hb)
    clear LA
    have LA := LAq
    clear LAq
    have QW := Lib.hid hq
    have QR := Lib.hid hqr
    have HQL : Hid (q.length = nq) := Lib.hid hq.reads.len
    have hnq : nq ≤ i := by rw [← hq.reads.len]; exact hql
    have hnw1 := hnw.1
    have hnw2 := hnw.2
    clear hb hq hqr hql hnw
    by_cases hlt : i < nL
    case neg =>
      go_wp2
      go_ret
      exact ⟨rfl, HB.out⟩
    by_cases h40 : i < 40
    case neg =>
      have h40d : decide (i < 40) = false := decide_eq_false h40
      have h40z : decide ((i : Int) < 40) = false := by simp; omega
      go_wp2
      go_ret
      exact ⟨rfl, HB.out⟩
    have h40d : decide (i < 40) = true := decide_eq_true h40
    have h40z : decide ((i : Int) < 40) = true := by simp; omega
    obtain ⟨b, off, x, rfl, hbl, ⟨a0, a1, a2, a3, a4, a5, a6, a7, a8, a9, a10⟩, hx1, hx2, hx3, hx4, hx5⟩ := LA.out.one hlt
    have LQ : Hid ((lostQ q).length ≤ 100) := Lib.hid (by have := lostQ_len (l := q); rw [HQL.out] at this; omega)
    obtain ⟨ll, hll⟩ : ∃ r, lostQ q = r := ⟨_, rfl⟩
    rw [hll] at LQ
    have ELL := Lib.hid hll
    have IXW := Lib.hid hx1
    have HSP := Lib.hid hx3
    have INW : Hid (I64 (nw + x.more)) := Lib.hid (by unfold I64; omega)
    have hx21 := hx2.1
    have hx22 := hx2.2
    have hx41 := hx4.1
    have hx42 := hx4.2
    have FQ := Lib.hid QR.out.few
    clear hll hx1 hx3 hx2
    have hb := Below.alloc (Below.refl wr.heap.size wr) (Nat.le_refl _) (.cells #[.int .i64 x.what, .int .u8 x.at', .int .i64 x.spec.nodes, .int .i64 x.spec.cores, .int .i64 x.spec.gpus, .string x.spec.tag, .bool x.spec.whole, .int .i64 x.spec.long, .int .i64 x.spec.prio, .int .u8 x.need, .int .u8 x.more] 38)
    have BAq := Lib.hid (boxA_new wr x)
    have HBq := Lib.hid (HB.out.trans (hb.mono HB.out.size))
    clear HB
    have HB := HBq
    clear HBq
    have HW1q := Lib.hid (HW1.out.trans (hb.mono HW1.out.size))
    clear HW1
    have HW1 := HW1q
    clear HW1q
    have LAq := Lib.hid (LA.out.next hb)
    clear LA
    have LA := LAq
    clear LAq
    have QWq := Lib.hid (QW.out.next hb)
    clear QW
    have QW := QWq
    clear QWq
    clear hb
    have BA := BAq
    clear BAq
    obtain ⟨V, hV⟩ : ∃ V, V = (wr.alloc (.cells #[.int .i64 x.what, .int .u8 x.at', .int .i64 x.spec.nodes, .int .i64 x.spec.cores, .int .i64 x.spec.gpus, .string x.spec.tag, .bool x.spec.whole, .int .i64 x.spec.long, .int .i64 x.spec.prio, .int .u8 x.need, .int .u8 x.more] 38)) := ⟨_, rfl⟩
    obtain ⟨ga, hga⟩ : ∃ g, wr.heap.size = g := ⟨_, rfl⟩
    rw [hga] at BA
    have BAq : Hid (BoxA V ga x) := Lib.hid (by rw [hV]; exact BA.out)
    clear BA
    have BA := BAq
    clear BAq
    rw [← hV] at LA QW HB HW1
    have c10 := BA.out.c10
    rw [hV] at c10
    go_wp2_with fail
    try rw [hga]
    rw [← hV]
    have HGA := Lib.hid hga
    clear hga hV c10 hbl a0 a1 a2 a3 a4 a5 a6 a7 a8 a9 a10
    refine (h12_lost H QW.out FQ.out ELL.out).mono ?_
    rintro e w3 ⟨⟨A1, c1, rfl, hr1, hnil1, hc1⟩, hb⟩
    have HBq := Lib.hid (HB.out.trans (hb.mono HB.out.size))
    clear HB
    have HB := HBq
    clear HBq
    have HW1q := Lib.hid (HW1.out.trans (hb.mono HW1.out.size))
    clear HW1
    have HW1 := HW1q
    clear HW1q
    have LAq := Lib.hid (LA.out.next hb)
    clear LA
    have LA := LAq
    clear LAq
    have QWq := Lib.hid (QW.out.next hb)
    clear QW
    have QW := QWq
    clear QWq
    have BAq := Lib.hid (BA.out.next hb)
    clear BA
    have BA := BAq
    clear BAq
    have T1 := Lib.hid hr1
    have HC := Lib.hid (Below.refl w3.heap.size w3)
    clear hr1 hnil1 hc1 hb
    have c0 := BA.out.c0
    go_upto_if 47 with fail
    go_cut [3] (fun qv wx => ∃ (A' : Option Addr) (n' c' : Nat) (q' : Qu), qv = .slice A' n' c' ∧ QAsk wx A' n' c' q' ∧ StepQ q q' ∧ Below w3.heap.size w3 wx)
    case first =>
     as_aux_lemma =>
      by_cases hw0 : x.what = 0
      · have d47 : (x.what == 0) = true := by rw [beq_iff_eq]; exact hw0
        clear hw0
        by_cases h0n : 0 < nq
        · have d0n : decide (0 < nq) = true := decide_eq_true h0n
          have d0z : decide ((0 : Int) < (nq : Int)) = true := by simp; omega
          obtain ⟨p, hp, hpe⟩ := rem_place (x := x.need) (n := nq) hx41 h0n
          obtain ⟨b, off, A6, m6, c6, rfl, hb6, ⟨e0, e1, e2, e3, e4, e5, e6, e7, e8, e9, e10, e11, e12⟩, ja⟩ := QW.out.reads.one hp
          clear e1 e2 e3 e4 e5 e6 e7 e8 e9 e10 e11 e12
          obtain ⟨y, hy⟩ : ∃ y, (jAt q p).id = y := ⟨_, rfl⟩
          rw [hy] at e0
          have IY : Hid (I64 y) := Lib.hid (by rw [← hy]; exact ja.int.1)
          have hpl : p < q.length := by rw [HQL.out]; exact hp
          have HHY : Hid (HasQ q y) := Lib.hid (by rw [← hy]; exact has_at hpl)
          have hpz : (p : Int) < (nq : Int) := by omega
          have h0z : ((nq : Int) == 0) = false := by rw [beq_eq_false_iff_ne]; omega
          clear ja hy hpl hb6
          by_cases hn127 : 127 < x.need
          · have dn : decide (127 < x.need) = true := decide_eq_true hn127
            have v2 := BA.out.c2
            have v3 := BA.out.c3
            have v4 := BA.out.c4
            have v5 := BA.out.c5
            have v6 := BA.out.c6
            have v7 := BA.out.c7
            have v8 := BA.out.c8
            have v9 := BA.out.c9
            have hb := Below.alloc (Below.refl w3.heap.size w3) (Nat.le_refl _) (.cells #[.int .i64 y] 3)
            have M1q := Lib.hid (aw12_lit w3 y IY.out)
            have HCq := Lib.hid (HC.out.trans (hb.mono HC.out.size))
            clear HC
            have HC := HCq
            clear HCq
            have QWq := Lib.hid (QW.out.next hb)
            clear QW
            have QW := QWq
            clear QWq
            have BAq := Lib.hid (BA.out.next hb)
            clear BA
            have BA := BAq
            clear BAq
            clear hb
            have M1 := M1q
            clear M1q
            have d2 := BA.out.c2
            have d3 := BA.out.c3
            have d4 := BA.out.c4
            have d5 := BA.out.c5
            have d6 := BA.out.c6
            have d7 := BA.out.c7
            have d8 := BA.out.c8
            have d9 := BA.out.c9
            go_wp2_with fail
            refine (h12_add H QW.out FQ.out HSP.out (mask_nil _) (by decide) INW.out rfl rfl rfl).mono ?_
            rintro e w4 ⟨⟨A5, n5, c5, rfl, hq5⟩, hb⟩
            have HCq := Lib.hid (HC.out.trans (hb.mono HC.out.size))
            clear HC
            have HC := HCq
            clear HCq
            have QWq := Lib.hid (QW.out.next hb)
            clear QW
            have QW := QWq
            clear QWq
            have BAq := Lib.hid (BA.out.next hb)
            clear BA
            have BA := BAq
            clear BAq
            have M1q := Lib.hid (M1.out.next hb)
            clear M1
            have M1 := M1q
            clear M1q
            clear hb
            have Q5 := Lib.hid hq5
            clear hq5 v2 v3 v4 v5 v6 v7 v8 v9 d2 d3 d4 d5 d6 d7 d8 d9
            go_wp2
            go_meet
            exact ⟨_, _, _, _, rfl, Q5.out, step_add QR.out, HC.out⟩
          · have dn : decide (127 < x.need) = false := decide_eq_false hn127
            have v2 := BA.out.c2
            have v3 := BA.out.c3
            have v4 := BA.out.c4
            have v5 := BA.out.c5
            have v6 := BA.out.c6
            have v7 := BA.out.c7
            have v8 := BA.out.c8
            have v9 := BA.out.c9
            have hb := Below.alloc (Below.refl w3.heap.size w3) (Nat.le_refl _) (.cells #[.int .i64 y] 3)
            have M1q := Lib.hid (aw12_lit w3 y IY.out)
            have HCq := Lib.hid (HC.out.trans (hb.mono HC.out.size))
            clear HC
            have HC := HCq
            clear HCq
            have QWq := Lib.hid (QW.out.next hb)
            clear QW
            have QW := QWq
            clear QWq
            have BAq := Lib.hid (BA.out.next hb)
            clear BA
            have BA := BAq
            clear BAq
            clear hb
            have M1 := M1q
            clear M1q
            have d2 := BA.out.c2
            have d3 := BA.out.c3
            have d4 := BA.out.c4
            have d5 := BA.out.c5
            have d6 := BA.out.c6
            have d7 := BA.out.c7
            have d8 := BA.out.c8
            have d9 := BA.out.c9
            go_wp2_with fail
            refine (h12_add H QW.out FQ.out HSP.out M1.out (by decide) INW.out rfl rfl rfl).mono ?_
            rintro e w4 ⟨⟨A5, n5, c5, rfl, hq5⟩, hb⟩
            have HCq := Lib.hid (HC.out.trans (hb.mono HC.out.size))
            clear HC
            have HC := HCq
            clear HCq
            have QWq := Lib.hid (QW.out.next hb)
            clear QW
            have QW := QWq
            clear QWq
            have BAq := Lib.hid (BA.out.next hb)
            clear BA
            have BA := BAq
            clear BAq
            have M1q := Lib.hid (M1.out.next hb)
            clear M1
            have M1 := M1q
            clear M1q
            clear hb
            have Q5 := Lib.hid hq5
            clear hq5 v2 v3 v4 v5 v6 v7 v8 v9 d2 d3 d4 d5 d6 d7 d8 d9
            go_wp2
            go_meet
            exact ⟨_, _, _, _, rfl, Q5.out, step_add QR.out, HC.out⟩
        · have d0n : decide (0 < nq) = false := decide_eq_false h0n
          have d0z : decide ((0 : Int) < (nq : Int)) = false := by simp; omega
          by_cases hn127 : 127 < x.need
          · have dn : decide (127 < x.need) = true := decide_eq_true hn127
            have v2 := BA.out.c2
            have v3 := BA.out.c3
            have v4 := BA.out.c4
            have v5 := BA.out.c5
            have v6 := BA.out.c6
            have v7 := BA.out.c7
            have v8 := BA.out.c8
            have v9 := BA.out.c9
            go_wp2_with fail
            refine (h12_add H QW.out FQ.out HSP.out (mask_nil _) (by decide) INW.out rfl rfl rfl).mono ?_
            rintro e w4 ⟨⟨A5, n5, c5, rfl, hq5⟩, hb⟩
            have HCq := Lib.hid (HC.out.trans (hb.mono HC.out.size))
            clear HC
            have HC := HCq
            clear HCq
            have QWq := Lib.hid (QW.out.next hb)
            clear QW
            have QW := QWq
            clear QWq
            have BAq := Lib.hid (BA.out.next hb)
            clear BA
            have BA := BAq
            clear BAq
            clear hb
            have Q5 := Lib.hid hq5
            clear hq5 v2 v3 v4 v5 v6 v7 v8 v9
            go_wp2
            go_meet
            exact ⟨_, _, _, _, rfl, Q5.out, step_add QR.out, HC.out⟩
          · have dn : decide (127 < x.need) = false := decide_eq_false hn127
            have v2 := BA.out.c2
            have v3 := BA.out.c3
            have v4 := BA.out.c4
            have v5 := BA.out.c5
            have v6 := BA.out.c6
            have v7 := BA.out.c7
            have v8 := BA.out.c8
            have v9 := BA.out.c9
            go_wp2_with fail
            refine (h12_add H QW.out FQ.out HSP.out (mask_nil _) (by decide) INW.out rfl rfl rfl).mono ?_
            rintro e w4 ⟨⟨A5, n5, c5, rfl, hq5⟩, hb⟩
            have HCq := Lib.hid (HC.out.trans (hb.mono HC.out.size))
            clear HC
            have HC := HCq
            clear HCq
            have QWq := Lib.hid (QW.out.next hb)
            clear QW
            have QW := QWq
            clear QWq
            have BAq := Lib.hid (BA.out.next hb)
            clear BA
            have BA := BAq
            clear BAq
            clear hb
            have Q5 := Lib.hid hq5
            clear hq5 v2 v3 v4 v5 v6 v7 v8 v9
            go_wp2
            go_meet
            exact ⟨_, _, _, _, rfl, Q5.out, step_add QR.out, HC.out⟩
      · have d47 : (x.what == 0) = false := by rw [beq_eq_false_iff_ne]; exact hw0
        clear hw0
        by_cases h0n : 0 < nq
        case neg =>
          have d0n : decide (0 < nq) = false := decide_eq_false h0n
          have d0z : decide ((0 : Int) < (nq : Int)) = false := by simp; omega
          go_wp2
          go_meet
          exact ⟨_, _, _, q, rfl, QW.out, step_same QR.out, HC.out⟩
        have d0n : decide (0 < nq) = true := decide_eq_true h0n
        have d0z : decide ((0 : Int) < (nq : Int)) = true := by simp; omega
        obtain ⟨p, hp, hpe⟩ := rem_place (x := x.at') (n := nq) hx21 h0n
        obtain ⟨b, off, A6, m6, c6, rfl, hb6, ⟨e0, e1, e2, e3, e4, e5, e6, e7, e8, e9, e10, e11, e12⟩, ja⟩ := QW.out.reads.one hp
        clear e1 e2 e3 e4 e5 e6 e7 e8 e9 e10 e11 e12
        obtain ⟨y, hy⟩ : ∃ y, (jAt q p).id = y := ⟨_, rfl⟩
        rw [hy] at e0
        have IY : Hid (I64 y) := Lib.hid (by rw [← hy]; exact ja.int.1)
        have hpl : p < q.length := by rw [HQL.out]; exact hp
        have HHY : Hid (HasQ q y) := Lib.hid (by rw [← hy]; exact has_at hpl)
        have hpz : (p : Int) < (nq : Int) := by omega
        have h0z : ((nq : Int) == 0) = false := by rw [beq_eq_false_iff_ne]; omega
        clear ja hy hpl hb6
        have k1 := BA.out.c1
        obtain ⟨rl, hrl⟩ : ∃ r, readyQ q = r := ⟨_, rfl⟩
        have ERL := Lib.hid hrl
        have LRL : Hid (rl.length ≤ 100) := Lib.hid (by rw [← hrl]; have := readyQ_len (l := q); rw [HQL.out] at this; omega)
        clear hrl
        go_wp2_with fail
        refine (h12_ready H QW.out FQ.out ERL.out).mono ?_
        rintro e w4 ⟨⟨A7, c7, rfl, hr7, hnil7, hc7⟩, hb⟩
        have HCq := Lib.hid (HC.out.trans (hb.mono HC.out.size))
        clear HC
        have HC := HCq
        clear HCq
        have QWq := Lib.hid (QW.out.next hb)
        clear QW
        have QW := QWq
        clear QWq
        have BAq := Lib.hid (BA.out.next hb)
        clear BA
        have BA := BAq
        clear BAq
        clear hb
        have R7 := Lib.hid hr7
        clear hr7 hnil7 hc7 k1 e0
        have c0' := BA.out.c0
        obtain ⟨my, hmy⟩ : ∃ v, decide (x.what ≠ 3) = v := ⟨_, rfl⟩
        have d3 : (x.what != 3) = my := by rw [← hmy, Bool.eq_iff_iff, bne_iff_ne, decide_eq_true_eq]
        have HMY := Lib.hid hmy
        clear hmy
        have hlr := LRL.out
        go_wp2
        go_loopg [12, 13] (rl.length) (fun g mv kv wx => ∃ k : Nat, g = rl.length - k ∧ k ≤ rl.length ∧ kv = .int .i64 k ∧ mv = .bool (my || decide (y ∈ rl.take k)) ∧ wx = w4)
        case atStart => exact ⟨0, by omega, Nat.zero_le _, rfl, by simp, rfl⟩
        case round =>
          obtain ⟨k, rfl, hk, rfl, hmv, hwx⟩ := hrel
          subst hwx
          obtain ⟨mb, hmb⟩ : ∃ v, (my || decide (y ∈ rl.take k)) = v := ⟨_, rfl⟩
          rw [hmb] at hmv
          subst hmv
          have HMB := Lib.hid hmb
          clear hmb
          by_cases hlk : k < rl.length
          · have HTS : Hid (rl.take (k + 1) = rl.take k ++ [rl.getD k 0]) := Lib.hid (by rw [List.take_succ_eq_append_getElem hlk, List.getD, List.getElem?_eq_getElem hlk]; rfl)
            cases mb with
            | true =>
              have MM : Hid ((my || decide (y ∈ rl.take (k + 1))) = true) := Lib.hid (by
                have h1 := HMB.out
                rw [Bool.or_eq_true, decide_eq_true_eq] at h1 ⊢
                rw [HTS.out, List.mem_append]
                rcases h1 with h1 | h1
                · exact .inl h1
                · exact .inr (.inl h1))
              go_wp2
              go_roundg (rl.length - (k + 1))
              case measure => omega
              case rel => exact ⟨k + 1, rfl, by omega, by go_num, by rw [MM.out], rfl⟩
            | false =>
              obtain ⟨b2, off2, rfl, _, hc2⟩ := R7.out.one hlk
              obtain ⟨zz, hzz⟩ : ∃ y, rl.getD k 0 = y := ⟨_, rfl⟩
              rw [hzz] at hc2 HTS
              clear hzz
              by_cases hzk : zz = y
              · have dk : (zz == y) = true := by rw [beq_iff_eq]; exact hzk
                have MM : Hid ((my || decide (y ∈ rl.take (k + 1))) = true) := Lib.hid (by rw [Bool.or_eq_true, decide_eq_true_eq, HTS.out, List.mem_append, List.mem_singleton]; exact .inr (.inr hzk.symm))
                clear hzk
                go_wp2
                go_roundg (rl.length - (k + 1))
                case measure => omega
                case rel => exact ⟨k + 1, rfl, by omega, by go_num, by rw [MM.out], rfl⟩
              · have dk : (zz == y) = false := by rw [beq_eq_false_iff_ne]; exact hzk
                have MM : Hid ((my || decide (y ∈ rl.take (k + 1))) = false) := Lib.hid (by
                  have h1 := HMB.out
                  rw [Bool.or_eq_false_iff, decide_eq_false_iff_not] at h1 ⊢
                  refine ⟨h1.1, ?_⟩
                  rw [HTS.out, List.mem_append, List.mem_singleton]
                  rintro (h | h)
                  · exact h1.2 h
                  · exact hzk h.symm)
                clear hzk
                go_wp2
                go_roundg (rl.length - (k + 1))
                case measure => omega
                case rel => exact ⟨k + 1, rfl, by omega, by go_num, by rw [MM.out], rfl⟩
          · have hke : k = rl.length := by omega
            have HMA : Hid (mb = true → x.what ≠ 3 ∨ y ∈ readyQ q) := Lib.hid (fun h => by
              have h1 := HMB.out
              rw [h, hke, List.take_length, Bool.or_eq_true, decide_eq_true_eq, ← HMY.out, decide_eq_true_eq] at h1
              rw [ERL.out]; exact h1)
            clear hke
            cases mb with
            | true =>
              have HMD := Lib.hid (HMA.out rfl)
              go_wp2_with fail
              refine (h12_do H QW.out QR.out HHY.out IY.out IXW.out INW.out rfl rfl).mono ?_
              rintro e w6 ⟨⟨A8, n8, c8, rfl, hq8⟩, hb⟩
              have HCq := Lib.hid (HC.out.trans (hb.mono HC.out.size))
              clear HC
              have HC := HCq
              clear HCq
              have QWq := Lib.hid (QW.out.next hb)
              clear QW
              have QW := QWq
              clear QWq
              have BAq := Lib.hid (BA.out.next hb)
              clear BA
              have BA := BAq
              clear BAq
              clear hb
              have Q8 := Lib.hid hq8
              clear hq8
              go_wp2
              go_meet
              exact ⟨_, _, _, _, rfl, Q8.out, step_do QR.out HMD.out, HC.out⟩
            | false =>
              go_wp2
              go_meet
              exact ⟨_, _, _, q, rfl, QW.out, step_same QR.out, HC.out⟩
    case rest =>
     as_aux_lemma =>
      clear c0 HC
      obtain ⟨A', n', c', q', rfl, hq', hst, hb⟩ := hcut
      have HBq := Lib.hid (HB.out.trans (hb.mono HB.out.size))
      clear HB
      have HB := HBq
      clear HBq
      have HW1q := Lib.hid (HW1.out.trans (hb.mono HW1.out.size))
      clear HW1
      have HW1 := HW1q
      clear HW1q
      have LAq := Lib.hid (LA.out.next hb)
      clear LA
      have LA := LAq
      clear LAq
      have QWq := Lib.hid (QW.out.next hb)
      clear QW
      have QW := QWq
      clear QWq
      have T1q := Lib.hid (T1.out.next hb)
      clear T1
      have T1 := T1q
      clear T1q
      have Q2 := Lib.hid hq'
      have ST := Lib.hid hst
      have HL2 : Hid (q'.length = n') := Lib.hid hq'.reads.len
      have hn1 : nq ≤ n' := by have := hst.len.1; rw [HQL.out, hq'.reads.len] at this; exact this
      have hn2 : n' ≤ nq + 1 := by have := hst.len.2; rw [HQL.out, hq'.reads.len] at this; exact this
      have F2 := Lib.hid hst.right.few
      have RR2 : Hid (rightQ q' = true) := Lib.hid (decide_eq_true hst.right)
      have dl1 : decide (n' < nq) = false := decide_eq_false (by omega)
      have dl1z : decide ((n' : Int) < (nq : Int)) = false := by simp; omega
      have dl2 : decide ((nq : Int) + 1 < (n' : Int)) = false := by simp; omega
      obtain ⟨al, hal⟩ : ∃ r, lostQ q' = r := ⟨_, rfl⟩
      have EAL := Lib.hid hal
      have LAL : Hid (al.length ≤ 100) := Lib.hid (by rw [← hal]; have := lostQ_len (l := q'); rw [hq'.reads.len] at this; omega)
      clear hal hq' hst hb BA
      go_wp2_with fail
      refine (h12_right H Q2.out F2.out RR2.out).mono ?_
      rintro e w6 ⟨rfl, hb⟩
      have HBq := Lib.hid (HB.out.trans (hb.mono HB.out.size))
      clear HB
      have HB := HBq
      clear HBq
      have HW1q := Lib.hid (HW1.out.trans (hb.mono HW1.out.size))
      clear HW1
      have HW1 := HW1q
      clear HW1q
      have LAq := Lib.hid (LA.out.next hb)
      clear LA
      have LA := LAq
      clear LAq
      have QWq := Lib.hid (QW.out.next hb)
      clear QW
      have QW := QWq
      clear QWq
      have T1q := Lib.hid (T1.out.next hb)
      clear T1
      have T1 := T1q
      clear T1q
      have Q2q := Lib.hid (Q2.out.next hb)
      clear Q2
      have Q2 := Q2q
      clear Q2q
      clear hb
      go_wp2_with fail
      refine (h12_lost H Q2.out F2.out EAL.out).mono ?_
      rintro e w7 ⟨⟨A9, c9, rfl, hr9, hnil9, hc9⟩, hb⟩
      have HBq := Lib.hid (HB.out.trans (hb.mono HB.out.size))
      clear HB
      have HB := HBq
      clear HBq
      have HW1q := Lib.hid (HW1.out.trans (hb.mono HW1.out.size))
      clear HW1
      have HW1 := HW1q
      clear HW1q
      have LAq := Lib.hid (LA.out.next hb)
      clear LA
      have LA := LAq
      clear LAq
      have QWq := Lib.hid (QW.out.next hb)
      clear QW
      have QW := QWq
      clear QWq
      have T1q := Lib.hid (T1.out.next hb)
      clear T1
      have T1 := T1q
      clear T1q
      have Q2q := Lib.hid (Q2.out.next hb)
      clear Q2
      have Q2 := Q2q
      clear Q2q
      clear hb
      have T2 := Lib.hid hr9
      clear hr9 hnil9 hc9
      have hlq := LQ.out
      have hla := LAL.out
      clear dl1 dl1z dl2
      go_wp2
      go_loopg [15] (ll.length) (fun g kv wx => ∃ k : Nat, g = ll.length - k ∧ k ≤ ll.length ∧ kv = .int .i64 k ∧ Below w7.heap.size w7 wx)
      case atStart => exact ⟨0, by omega, Nat.zero_le _, rfl, Below.refl _ _⟩
      case round =>
        obtain ⟨k, rfl, hk, rfl, hb⟩ := hrel
        have HV3 := Lib.hid hb
        have HBq := Lib.hid (HB.out.trans (hb.mono HB.out.size))
        clear HB
        have HB := HBq
        clear HBq
        have HW1q := Lib.hid (HW1.out.trans (hb.mono HW1.out.size))
        clear HW1
        have HW1 := HW1q
        clear HW1q
        have LAq := Lib.hid (LA.out.next hb)
        clear LA
        have LA := LAq
        clear LAq
        have QWq := Lib.hid (QW.out.next hb)
        clear QW
        have QW := QWq
        clear QWq
        have T1q := Lib.hid (T1.out.next hb)
        clear T1
        have T1 := T1q
        clear T1q
        have Q2q := Lib.hid (Q2.out.next hb)
        clear Q2
        have Q2 := Q2q
        clear Q2q
        have T2q := Lib.hid (T2.out.next hb)
        clear T2
        have T2 := T2q
        clear T2q
        clear hb
        by_cases hlk : k < ll.length
        · obtain ⟨b3, off3, rfl, hb3, hc3⟩ := T1.out.one hlk
          obtain ⟨x3, hx3⟩ : ∃ y, ll.getD k 0 = y := ⟨_, rfl⟩
          rw [hx3] at hc3
          have HX3 := Lib.hid hx3
          obtain ⟨_, p, hp, hpx, hpl⟩ := lost_one (l := q) (i := k) (x := x3) (by rw [ELL.out]; exact hlk) (by rw [ELL.out]; exact hx3)
          have hp2 : p < q'.length := by have := ST.out.len.1; omega
          have hpi : (jAt q' p).id = x3 := by rw [ST.out.id p hp]; exact hpx
          have hga := getq_at ST.out.right hp2 hpi
          have GD : Hid (decide (GetQ q' x3) = true) := Lib.hid (decide_eq_true hga.1)
          have hgx := hga.2
          have hjr := ST.out.right.job hp2
          have hlo := ST.out.lost p hp hpl
          have HLM : Hid (overJ (jAt q' p).state = true ∨ x3 ∈ al) := Lib.hid (hlo.imp id fun h => by rw [← EAL.out]; exact mem_lostQ.2 ⟨ST.out.right, p, hp2, hpi, h⟩)
          obtain ⟨j, hj⟩ : ∃ j, jAt q' p = j := ⟨_, rfl⟩
          rw [hj] at hgx hjr HLM
          have IX : Hid (I64 x3) := Lib.hid (by have h1 := hjr.1.1; rw [← hpi, hj]; unfold I64; omega)
          have GT := Lib.hid hgx
          clear hpx hpl hga hgx hjr hj hp hp2 hpi hb3 hx3 hlo
          go_wp2_with fail
          refine (h12_get H Q2.out F2.out IX.out GT.out GD.out).mono ?_
          rintro e w9 ⟨⟨A3, m3, c3, rfl, hj3⟩, hb⟩
          have HBq := Lib.hid (HB.out.trans (hb.mono HB.out.size))
          clear HB
          have HB := HBq
          clear HBq
          have HW1q := Lib.hid (HW1.out.trans (hb.mono HW1.out.size))
          clear HW1
          have HW1 := HW1q
          clear HW1q
          have HV3q := Lib.hid (HV3.out.trans (hb.mono HV3.out.size))
          clear HV3
          have HV3 := HV3q
          clear HV3q
          have LAq := Lib.hid (LA.out.next hb)
          clear LA
          have LA := LAq
          clear LAq
          have QWq := Lib.hid (QW.out.next hb)
          clear QW
          have QW := QWq
          clear QWq
          have T1q := Lib.hid (T1.out.next hb)
          clear T1
          have T1 := T1q
          clear T1q
          have Q2q := Lib.hid (Q2.out.next hb)
          clear Q2
          have Q2 := Q2q
          clear Q2q
          have T2q := Lib.hid (T2.out.next hb)
          clear T2
          have T2 := T2q
          clear T2q
          clear hb
          have J3 := Lib.hid hj3
          clear hj3 hc3
          have hb := Below.alloc (Below.refl w9.heap.size w9) (Nat.le_refl _) (.cells #[.int .i64 j.id, .int .i64 j.spec.nodes, .int .i64 j.spec.cores, .int .i64 j.spec.gpus, .string j.spec.tag, .bool j.spec.whole, .int .i64 j.spec.long, .int .i64 j.spec.prio, .slice A3 m3 c3, .int .i64 j.state, .int .i64 j.came, .int .i64 j.frm, .int .i64 j.to] 30)
          have B3q := Lib.hid (boxJ_new w9 j A3 m3 c3)
          have HBq := Lib.hid (HB.out.trans (hb.mono HB.out.size))
          clear HB
          have HB := HBq
          clear HBq
          have HW1q := Lib.hid (HW1.out.trans (hb.mono HW1.out.size))
          clear HW1
          have HW1 := HW1q
          clear HW1q
          have HV3q := Lib.hid (HV3.out.trans (hb.mono HV3.out.size))
          clear HV3
          have HV3 := HV3q
          clear HV3q
          have LAq := Lib.hid (LA.out.next hb)
          clear LA
          have LA := LAq
          clear LAq
          have QWq := Lib.hid (QW.out.next hb)
          clear QW
          have QW := QWq
          clear QWq
          have T1q := Lib.hid (T1.out.next hb)
          clear T1
          have T1 := T1q
          clear T1q
          have Q2q := Lib.hid (Q2.out.next hb)
          clear Q2
          have Q2 := Q2q
          clear Q2q
          have T2q := Lib.hid (T2.out.next hb)
          clear T2
          have T2 := T2q
          clear T2q
          have J3q := Lib.hid (J3.out.next hb)
          clear J3
          have J3 := J3q
          clear J3q
          clear hb
          have B3 := B3q
          clear B3q
          have s9 := B3.out.c9
          have IS := Lib.hid J3.out.int.2.1
          obtain ⟨ov, hov⟩ : ∃ v, overJ j.state = v := ⟨_, rfl⟩
          rw [hov] at HLM
          have OV := Lib.hid hov
          clear hov
          go_wp2_with fail
          refine (over_c HO IS.out OV.out).mono ?_
          rintro e w10 ⟨rfl, hb⟩
          have HBq := Lib.hid (HB.out.trans (hb.mono HB.out.size))
          clear HB
          have HB := HBq
          clear HBq
          have HW1q := Lib.hid (HW1.out.trans (hb.mono HW1.out.size))
          clear HW1
          have HW1 := HW1q
          clear HW1q
          have HV3q := Lib.hid (HV3.out.trans (hb.mono HV3.out.size))
          clear HV3
          have HV3 := HV3q
          clear HV3q
          have LAq := Lib.hid (LA.out.next hb)
          clear LA
          have LA := LAq
          clear LAq
          have QWq := Lib.hid (QW.out.next hb)
          clear QW
          have QW := QWq
          clear QWq
          have T1q := Lib.hid (T1.out.next hb)
          clear T1
          have T1 := T1q
          clear T1q
          have Q2q := Lib.hid (Q2.out.next hb)
          clear Q2
          have Q2 := Q2q
          clear Q2q
          have T2q := Lib.hid (T2.out.next hb)
          clear T2
          have T2 := T2q
          clear T2q
          have J3q := Lib.hid (J3.out.next hb)
          clear J3
          have J3 := J3q
          clear J3q
          have B3q := Lib.hid (B3.out.next hb)
          clear B3
          have B3 := B3q
          clear B3q
          clear hb
          clear s9
          go_wp2
          go_loopg [18, 19] (al.length) (fun g fv mv wx => ∃ mm : Nat, g = al.length - mm ∧ mm ≤ al.length ∧ mv = .int .i64 mm ∧ fv = .bool (ov || decide (x3 ∈ al.take mm)) ∧ Below w10.heap.size w10 wx)
          case atStart => exact ⟨0, by omega, Nat.zero_le _, rfl, by simp, Below.refl _ _⟩
          case round =>
            obtain ⟨mm, rfl, hmm, rfl, hfv, hb⟩ := hrel
            have HV4 := Lib.hid hb
            have HBq := Lib.hid (HB.out.trans (hb.mono HB.out.size))
            clear HB
            have HB := HBq
            clear HBq
            have HW1q := Lib.hid (HW1.out.trans (hb.mono HW1.out.size))
            clear HW1
            have HW1 := HW1q
            clear HW1q
            have HV3q := Lib.hid (HV3.out.trans (hb.mono HV3.out.size))
            clear HV3
            have HV3 := HV3q
            clear HV3q
            have LAq := Lib.hid (LA.out.next hb)
            clear LA
            have LA := LAq
            clear LAq
            have QWq := Lib.hid (QW.out.next hb)
            clear QW
            have QW := QWq
            clear QWq
            have T1q := Lib.hid (T1.out.next hb)
            clear T1
            have T1 := T1q
            clear T1q
            have Q2q := Lib.hid (Q2.out.next hb)
            clear Q2
            have Q2 := Q2q
            clear Q2q
            have T2q := Lib.hid (T2.out.next hb)
            clear T2
            have T2 := T2q
            clear T2q
            clear hb
            obtain ⟨fv, hff⟩ : ∃ v, (ov || decide (x3 ∈ al.take mm)) = v := ⟨_, rfl⟩
            rw [hff] at hfv
            subst hfv
            have HFF := Lib.hid hff
            clear hff
            by_cases hlm : mm < al.length
            · obtain ⟨b4, off4, rfl, hb4, hc4⟩ := T2.out.one hlm
              obtain ⟨zz, hzz⟩ : ∃ y, al.getD mm 0 = y := ⟨_, rfl⟩
              rw [hzz] at hc4
              have hTS : al.take (mm + 1) = al.take mm ++ [zz] := by rw [List.take_succ_eq_append_getElem hlm, ← hzz, List.getD, List.getElem?_eq_getElem hlm]; rfl
              have HTS := Lib.hid hTS
              obtain ⟨b3, off3, eT, hb3, hc3⟩ := T1.out.one hlk
              rw [HX3.out] at hc3
              injection eT with eT
              injection eT with eB eO _
              subst eB eO
              clear hTS hzz
              cases fv with
              | true =>
                have FF2 : Hid ((ov || decide (x3 ∈ al.take (mm + 1))) = true) := Lib.hid (by
                  have h1 := HFF.out
                  rw [HTS.out]
                  rw [Bool.or_eq_true, decide_eq_true_eq] at h1 ⊢
                  rw [List.mem_append]
                  rcases h1 with h1 | h1
                  · exact .inl h1
                  · exact .inr (.inl h1))
                go_wp2
                refine wp_region_later (by kernel_rfl) (by kernel_rfl) ?_
                repeat (first | go_big_quiet_skip | (go_big_quiet_want; go_big_quiet_op; first | go_big_quiet_on | (apply Exists.intro; refine ⟨fun pz => ?_, ?_⟩; (fail); go_big_quiet_on)))
                refine wpQuiet_nil ?_
                intro _ hw'
                obtain ⟨pz, rfl⟩ := hw'
                obtain ⟨w12, hb⟩ := pz
                try dsimp only
                have HBq := Lib.hid (HB.out.trans (hb.mono HB.out.size))
                clear HB
                have HB := HBq
                clear HBq
                have HW1q := Lib.hid (HW1.out.trans (hb.mono HW1.out.size))
                clear HW1
                have HW1 := HW1q
                clear HW1q
                have HV3q := Lib.hid (HV3.out.trans (hb.mono HV3.out.size))
                clear HV3
                have HV3 := HV3q
                clear HV3q
                have HV4q := Lib.hid (HV4.out.trans (hb.mono HV4.out.size))
                clear HV4
                have HV4 := HV4q
                clear HV4q
                have LAq := Lib.hid (LA.out.next hb)
                clear LA
                have LA := LAq
                clear LAq
                have QWq := Lib.hid (QW.out.next hb)
                clear QW
                have QW := QWq
                clear QWq
                have T1q := Lib.hid (T1.out.next hb)
                clear T1
                have T1 := T1q
                clear T1q
                have Q2q := Lib.hid (Q2.out.next hb)
                clear Q2
                have Q2 := Q2q
                clear Q2q
                have T2q := Lib.hid (T2.out.next hb)
                clear T2
                have T2 := T2q
                clear T2q
                clear hb
                go_wp2
                go_roundg (al.length - (mm + 1))
                case measure => omega
                case rel => exact ⟨mm + 1, rfl, by omega, by go_num, by rw [FF2.out], HV4.out⟩
              | false =>
                by_cases hzk : zz = x3
                · have dk : (zz == x3) = true := by rw [beq_iff_eq]; exact hzk
                  have FF2 : Hid ((ov || decide (x3 ∈ al.take (mm + 1))) = true) := Lib.hid (by
                    have h1 := HFF.out
                    rw [HTS.out]
                    rw [Bool.or_eq_true, decide_eq_true_eq, List.mem_append, List.mem_singleton]; exact .inr (.inr hzk.symm))
                  clear hzk
                  go_wp2
                  have zc0 : ∀ p : Later wr, p.now.cell? ⟨b4, off4 + mm, none⟩ = some (.int .i64 zz) := fun _ => Later.cell hb4 hc4
                  have zc1 : ∀ p : Later wr, p.now.cell? ⟨b3, off3 + k, none⟩ = some (.int .i64 x3) := fun _ => Later.cell hb3 hc3
                  refine wp_region_later (by kernel_rfl) (by kernel_rfl) ?_
                  repeat (first | go_big_quiet_skip | (go_big_quiet_want; go_big_quiet_op; first | go_big_quiet_on | (apply Exists.intro; refine ⟨fun pz => ?_, ?_⟩; (fail); go_big_quiet_on)))
                  refine wpQuiet_nil ?_
                  intro _ hw'
                  obtain ⟨pz, rfl⟩ := hw'
                  obtain ⟨w12, hb⟩ := pz
                  try dsimp only
                  clear zc0 zc1
                  have HBq := Lib.hid (HB.out.trans (hb.mono HB.out.size))
                  clear HB
                  have HB := HBq
                  clear HBq
                  have HW1q := Lib.hid (HW1.out.trans (hb.mono HW1.out.size))
                  clear HW1
                  have HW1 := HW1q
                  clear HW1q
                  have HV3q := Lib.hid (HV3.out.trans (hb.mono HV3.out.size))
                  clear HV3
                  have HV3 := HV3q
                  clear HV3q
                  have HV4q := Lib.hid (HV4.out.trans (hb.mono HV4.out.size))
                  clear HV4
                  have HV4 := HV4q
                  clear HV4q
                  have LAq := Lib.hid (LA.out.next hb)
                  clear LA
                  have LA := LAq
                  clear LAq
                  have QWq := Lib.hid (QW.out.next hb)
                  clear QW
                  have QW := QWq
                  clear QWq
                  have T1q := Lib.hid (T1.out.next hb)
                  clear T1
                  have T1 := T1q
                  clear T1q
                  have Q2q := Lib.hid (Q2.out.next hb)
                  clear Q2
                  have Q2 := Q2q
                  clear Q2q
                  have T2q := Lib.hid (T2.out.next hb)
                  clear T2
                  have T2 := T2q
                  clear T2q
                  clear hb
                  go_wp2
                  go_roundg (al.length - (mm + 1))
                  case measure => omega
                  case rel => exact ⟨mm + 1, rfl, by omega, by go_num, by rw [FF2.out], HV4.out⟩
                · have dk : (zz == x3) = false := by rw [beq_eq_false_iff_ne]; exact hzk
                  have FF2 : Hid ((ov || decide (x3 ∈ al.take (mm + 1))) = false) := Lib.hid (by
                    have h1 := HFF.out
                    rw [HTS.out]
                    rw [Bool.or_eq_false_iff, decide_eq_false_iff_not] at h1 ⊢
                    refine ⟨h1.1, ?_⟩
                    rw [List.mem_append, List.mem_singleton]
                    rintro (h | h)
                    · exact h1.2 h
                    · exact hzk h.symm)
                  clear hzk
                  go_wp2
                  have zc0 : ∀ p : Later wr, p.now.cell? ⟨b4, off4 + mm, none⟩ = some (.int .i64 zz) := fun _ => Later.cell hb4 hc4
                  have zc1 : ∀ p : Later wr, p.now.cell? ⟨b3, off3 + k, none⟩ = some (.int .i64 x3) := fun _ => Later.cell hb3 hc3
                  refine wp_region_later (by kernel_rfl) (by kernel_rfl) ?_
                  repeat (first | go_big_quiet_skip | (go_big_quiet_want; go_big_quiet_op; first | go_big_quiet_on | (apply Exists.intro; refine ⟨fun pz => ?_, ?_⟩; (fail); go_big_quiet_on)))
                  refine wpQuiet_nil ?_
                  intro _ hw'
                  obtain ⟨pz, rfl⟩ := hw'
                  obtain ⟨w12, hb⟩ := pz
                  try dsimp only
                  clear zc0 zc1
                  have HBq := Lib.hid (HB.out.trans (hb.mono HB.out.size))
                  clear HB
                  have HB := HBq
                  clear HBq
                  have HW1q := Lib.hid (HW1.out.trans (hb.mono HW1.out.size))
                  clear HW1
                  have HW1 := HW1q
                  clear HW1q
                  have HV3q := Lib.hid (HV3.out.trans (hb.mono HV3.out.size))
                  clear HV3
                  have HV3 := HV3q
                  clear HV3q
                  have HV4q := Lib.hid (HV4.out.trans (hb.mono HV4.out.size))
                  clear HV4
                  have HV4 := HV4q
                  clear HV4q
                  have LAq := Lib.hid (LA.out.next hb)
                  clear LA
                  have LA := LAq
                  clear LAq
                  have QWq := Lib.hid (QW.out.next hb)
                  clear QW
                  have QW := QWq
                  clear QWq
                  have T1q := Lib.hid (T1.out.next hb)
                  clear T1
                  have T1 := T1q
                  clear T1q
                  have Q2q := Lib.hid (Q2.out.next hb)
                  clear Q2
                  have Q2 := Q2q
                  clear Q2q
                  have T2q := Lib.hid (T2.out.next hb)
                  clear T2
                  have T2 := T2q
                  clear T2q
                  clear hb
                  go_wp2
                  go_roundg (al.length - (mm + 1))
                  case measure => omega
                  case rel => exact ⟨mm + 1, rfl, by omega, by go_num, by rw [FF2.out], HV4.out⟩
            · have hme : mm = al.length := by omega
              have hft : fv = true := by
                have h1 := HFF.out
                rw [hme, List.take_length] at h1
                rw [← h1, Bool.or_eq_true, decide_eq_true_eq]
                exact HLM.out
              subst hft
              clear hme
              go_wp2
              go_roundg (ll.length - (k + 1))
              case measure => omega
              case rel => exact ⟨k + 1, rfl, by omega, by go_num, HV3.out⟩
        · obtain ⟨V5, rfl⟩ : ∃ V, V = wr := ⟨_, rfl⟩
          clear HV3
          go_wp2
          go_loopg [20] nq (fun g kv wx => ∃ k5 : Nat, g = nq - k5 ∧ k5 ≤ nq ∧ kv = .int .i64 k5 ∧ Below V5.heap.size V5 wx)
          case atStart => exact ⟨0, by omega, Nat.zero_le _, rfl, Below.refl _ _⟩
          case round =>
            obtain ⟨k5, rfl, hk5, rfl, hb⟩ := hrel
            have HV5 := Lib.hid hb
            have HBq := Lib.hid (HB.out.trans (hb.mono HB.out.size))
            clear HB
            have HB := HBq
            clear HBq
            have HW1q := Lib.hid (HW1.out.trans (hb.mono HW1.out.size))
            clear HW1
            have HW1 := HW1q
            clear HW1q
            have LAq := Lib.hid (LA.out.next hb)
            clear LA
            have LA := LAq
            clear LAq
            have QWq := Lib.hid (QW.out.next hb)
            clear QW
            have QW := QWq
            clear QWq
            have T1q := Lib.hid (T1.out.next hb)
            clear T1
            have T1 := T1q
            clear T1q
            have Q2q := Lib.hid (Q2.out.next hb)
            clear Q2
            have Q2 := Q2q
            clear Q2q
            have T2q := Lib.hid (T2.out.next hb)
            clear T2
            have T2 := T2q
            clear T2q
            clear hb
            by_cases hl5 : k5 < nq
            · obtain ⟨b5, off5, A5, m5, c5, rfl, hb5, ⟨e0, e1, e2, e3, e4, e5, e6, e7, e8, e9, e10, e11, e12⟩, ja⟩ := QW.out.reads.one hl5
              obtain ⟨b6, off6, A6, m6, c6, rfl, hb6, ⟨f0, f1, f2, f3, f4, f5, f6, f7, f8, f9, f10, f11, f12⟩, jb⟩ := Q2.out.reads.one (k := k5) (by omega)
              have hov5 := ST.out.over k5 (by rw [HQL.out]; exact hl5)
              have IS5 := Lib.hid ja.int.2.1
              obtain ⟨j, hj⟩ : ∃ j, jAt q k5 = j := ⟨_, rfl⟩
              rw [hj] at ja e0 e1 e2 e3 e4 e5 e6 e7 e9 e10 e11 e12 hov5 IS5
              have JA := Lib.hid ja
              have hk6 : (k5 : Int) < (n' : Int) := by omega
              cases hov : overJ j.state with
              | false =>
                have OV := Lib.hid hov
                clear hov hov5 jb f0 f1 f2 f3 f4 f5 f6 f7 f8 f9 f10 f11 f12 ja hj
                go_wp2
                have zc0 : ∀ p : Later wr, p.now.cell? ⟨b5, off5 + k5 * 13, none⟩ = some (.int .i64 j.id) := fun _ => Later.cell hb5 e0
                have zc1 : ∀ p : Later wr, p.now.cell? ⟨b5, off5 + k5 * 13 + 1, none⟩ = some (.int .i64 j.spec.nodes) := fun _ => Later.cell hb5 e1
                have zc2 : ∀ p : Later wr, p.now.cell? ⟨b5, off5 + k5 * 13 + 2, none⟩ = some (.int .i64 j.spec.cores) := fun _ => Later.cell hb5 e2
                have zc3 : ∀ p : Later wr, p.now.cell? ⟨b5, off5 + k5 * 13 + 3, none⟩ = some (.int .i64 j.spec.gpus) := fun _ => Later.cell hb5 e3
                have zc4 : ∀ p : Later wr, p.now.cell? ⟨b5, off5 + k5 * 13 + 4, none⟩ = some (.string j.spec.tag) := fun _ => Later.cell hb5 e4
                have zc5 : ∀ p : Later wr, p.now.cell? ⟨b5, off5 + k5 * 13 + 5, none⟩ = some (.bool j.spec.whole) := fun _ => Later.cell hb5 e5
                have zc6 : ∀ p : Later wr, p.now.cell? ⟨b5, off5 + k5 * 13 + 6, none⟩ = some (.int .i64 j.spec.long) := fun _ => Later.cell hb5 e6
                have zc7 : ∀ p : Later wr, p.now.cell? ⟨b5, off5 + k5 * 13 + 7, none⟩ = some (.int .i64 j.spec.prio) := fun _ => Later.cell hb5 e7
                have zc8 : ∀ p : Later wr, p.now.cell? ⟨b5, off5 + k5 * 13 + 8, none⟩ = some (.slice A5 m5 c5) := fun _ => Later.cell hb5 e8
                have zc9 : ∀ p : Later wr, p.now.cell? ⟨b5, off5 + k5 * 13 + 9, none⟩ = some (.int .i64 j.state) := fun _ => Later.cell hb5 e9
                have zc10 : ∀ p : Later wr, p.now.cell? ⟨b5, off5 + k5 * 13 + 10, none⟩ = some (.int .i64 j.came) := fun _ => Later.cell hb5 e10
                have zc11 : ∀ p : Later wr, p.now.cell? ⟨b5, off5 + k5 * 13 + 11, none⟩ = some (.int .i64 j.frm) := fun _ => Later.cell hb5 e11
                have zc12 : ∀ p : Later wr, p.now.cell? ⟨b5, off5 + k5 * 13 + 12, none⟩ = some (.int .i64 j.to) := fun _ => Later.cell hb5 e12
                refine wp_region_later (by kernel_rfl) (by kernel_rfl) ?_
                repeat (first | go_big_quiet_skip | (go_big_quiet_want; go_big_quiet_op; first | go_big_quiet_on | (apply Exists.intro; refine ⟨fun pz => ?_, ?_⟩; (first | (go_at_call 20; exact Calls.later_of (over_c HO IS5.out OV.out)) | fail); go_big_quiet_on)))
                refine wpQuiet_nil ?_
                intro _ hw'
                obtain ⟨pz, rfl⟩ := hw'
                obtain ⟨w13, hb⟩ := pz
                try dsimp only
                clear zc0 zc1 zc2 zc3 zc4 zc5 zc6 zc7 zc8 zc9 zc10 zc11 zc12
                have HBq := Lib.hid (HB.out.trans (hb.mono HB.out.size))
                clear HB
                have HB := HBq
                clear HBq
                have HW1q := Lib.hid (HW1.out.trans (hb.mono HW1.out.size))
                clear HW1
                have HW1 := HW1q
                clear HW1q
                have HV5q := Lib.hid (HV5.out.trans (hb.mono HV5.out.size))
                clear HV5
                have HV5 := HV5q
                clear HV5q
                have LAq := Lib.hid (LA.out.next hb)
                clear LA
                have LA := LAq
                clear LAq
                have QWq := Lib.hid (QW.out.next hb)
                clear QW
                have QW := QWq
                clear QWq
                have T1q := Lib.hid (T1.out.next hb)
                clear T1
                have T1 := T1q
                clear T1q
                have Q2q := Lib.hid (Q2.out.next hb)
                clear Q2
                have Q2 := Q2q
                clear Q2q
                have T2q := Lib.hid (T2.out.next hb)
                clear T2
                have T2 := T2q
                clear T2q
                clear hb
                go_wp2
                go_roundg (nq - (k5 + 1))
                case measure => omega
                case rel => exact ⟨k5 + 1, rfl, by omega, by go_num, HV5.out⟩
              | true =>
                have OV := Lib.hid hov
                have hsm := hov5 hov
                rw [hsm] at jb f0 f1 f2 f3 f4 f5 f6 f7 f9 f10 f11 f12
                have JB := Lib.hid jb
                clear hov hov5 hsm jb ja hj
                go_wp2
                have zc0 : ∀ p : Later wr, p.now.cell? ⟨b5, off5 + k5 * 13, none⟩ = some (.int .i64 j.id) := fun _ => Later.cell hb5 e0
                have zc1 : ∀ p : Later wr, p.now.cell? ⟨b5, off5 + k5 * 13 + 1, none⟩ = some (.int .i64 j.spec.nodes) := fun _ => Later.cell hb5 e1
                have zc2 : ∀ p : Later wr, p.now.cell? ⟨b5, off5 + k5 * 13 + 2, none⟩ = some (.int .i64 j.spec.cores) := fun _ => Later.cell hb5 e2
                have zc3 : ∀ p : Later wr, p.now.cell? ⟨b5, off5 + k5 * 13 + 3, none⟩ = some (.int .i64 j.spec.gpus) := fun _ => Later.cell hb5 e3
                have zc4 : ∀ p : Later wr, p.now.cell? ⟨b5, off5 + k5 * 13 + 4, none⟩ = some (.string j.spec.tag) := fun _ => Later.cell hb5 e4
                have zc5 : ∀ p : Later wr, p.now.cell? ⟨b5, off5 + k5 * 13 + 5, none⟩ = some (.bool j.spec.whole) := fun _ => Later.cell hb5 e5
                have zc6 : ∀ p : Later wr, p.now.cell? ⟨b5, off5 + k5 * 13 + 6, none⟩ = some (.int .i64 j.spec.long) := fun _ => Later.cell hb5 e6
                have zc7 : ∀ p : Later wr, p.now.cell? ⟨b5, off5 + k5 * 13 + 7, none⟩ = some (.int .i64 j.spec.prio) := fun _ => Later.cell hb5 e7
                have zc8 : ∀ p : Later wr, p.now.cell? ⟨b5, off5 + k5 * 13 + 8, none⟩ = some (.slice A5 m5 c5) := fun _ => Later.cell hb5 e8
                have zc9 : ∀ p : Later wr, p.now.cell? ⟨b5, off5 + k5 * 13 + 9, none⟩ = some (.int .i64 j.state) := fun _ => Later.cell hb5 e9
                have zc10 : ∀ p : Later wr, p.now.cell? ⟨b5, off5 + k5 * 13 + 10, none⟩ = some (.int .i64 j.came) := fun _ => Later.cell hb5 e10
                have zc11 : ∀ p : Later wr, p.now.cell? ⟨b5, off5 + k5 * 13 + 11, none⟩ = some (.int .i64 j.frm) := fun _ => Later.cell hb5 e11
                have zc12 : ∀ p : Later wr, p.now.cell? ⟨b5, off5 + k5 * 13 + 12, none⟩ = some (.int .i64 j.to) := fun _ => Later.cell hb5 e12
                have zc13 : ∀ p : Later wr, p.now.cell? ⟨b6, off6 + k5 * 13, none⟩ = some (.int .i64 j.id) := fun _ => Later.cell hb6 f0
                have zc14 : ∀ p : Later wr, p.now.cell? ⟨b6, off6 + k5 * 13 + 1, none⟩ = some (.int .i64 j.spec.nodes) := fun _ => Later.cell hb6 f1
                have zc15 : ∀ p : Later wr, p.now.cell? ⟨b6, off6 + k5 * 13 + 2, none⟩ = some (.int .i64 j.spec.cores) := fun _ => Later.cell hb6 f2
                have zc16 : ∀ p : Later wr, p.now.cell? ⟨b6, off6 + k5 * 13 + 3, none⟩ = some (.int .i64 j.spec.gpus) := fun _ => Later.cell hb6 f3
                have zc17 : ∀ p : Later wr, p.now.cell? ⟨b6, off6 + k5 * 13 + 4, none⟩ = some (.string j.spec.tag) := fun _ => Later.cell hb6 f4
                have zc18 : ∀ p : Later wr, p.now.cell? ⟨b6, off6 + k5 * 13 + 5, none⟩ = some (.bool j.spec.whole) := fun _ => Later.cell hb6 f5
                have zc19 : ∀ p : Later wr, p.now.cell? ⟨b6, off6 + k5 * 13 + 6, none⟩ = some (.int .i64 j.spec.long) := fun _ => Later.cell hb6 f6
                have zc20 : ∀ p : Later wr, p.now.cell? ⟨b6, off6 + k5 * 13 + 7, none⟩ = some (.int .i64 j.spec.prio) := fun _ => Later.cell hb6 f7
                have zc21 : ∀ p : Later wr, p.now.cell? ⟨b6, off6 + k5 * 13 + 8, none⟩ = some (.slice A6 m6 c6) := fun _ => Later.cell hb6 f8
                have zc22 : ∀ p : Later wr, p.now.cell? ⟨b6, off6 + k5 * 13 + 9, none⟩ = some (.int .i64 j.state) := fun _ => Later.cell hb6 f9
                have zc23 : ∀ p : Later wr, p.now.cell? ⟨b6, off6 + k5 * 13 + 10, none⟩ = some (.int .i64 j.came) := fun _ => Later.cell hb6 f10
                have zc24 : ∀ p : Later wr, p.now.cell? ⟨b6, off6 + k5 * 13 + 11, none⟩ = some (.int .i64 j.frm) := fun _ => Later.cell hb6 f11
                have zc25 : ∀ p : Later wr, p.now.cell? ⟨b6, off6 + k5 * 13 + 12, none⟩ = some (.int .i64 j.to) := fun _ => Later.cell hb6 f12
                refine wp_region_later (by kernel_rfl) (by kernel_rfl) ?_
                repeat (first | go_big_quiet_skip | (go_big_quiet_want; go_big_quiet_op; first | go_big_quiet_on | (apply Exists.intro; refine ⟨fun pz => ?_, ?_⟩; (first | (go_at_call 20; exact Calls.later_of (over_c HO IS5.out OV.out)) | (go_at_call 21; exact Calls.later_of (refSameJ_b (JA.out.next pz.bel) (JB.out.next pz.bel) (sameJ_iff.2 rfl))) | fail); go_big_quiet_on)))
                refine wpQuiet_nil ?_
                intro _ hw'
                obtain ⟨pz, rfl⟩ := hw'
                obtain ⟨w13, hb⟩ := pz
                try dsimp only
                clear zc0 zc1 zc2 zc3 zc4 zc5 zc6 zc7 zc8 zc9 zc10 zc11 zc12 zc13 zc14 zc15 zc16 zc17 zc18 zc19 zc20 zc21 zc22 zc23 zc24 zc25
                have HBq := Lib.hid (HB.out.trans (hb.mono HB.out.size))
                clear HB
                have HB := HBq
                clear HBq
                have HW1q := Lib.hid (HW1.out.trans (hb.mono HW1.out.size))
                clear HW1
                have HW1 := HW1q
                clear HW1q
                have HV5q := Lib.hid (HV5.out.trans (hb.mono HV5.out.size))
                clear HV5
                have HV5 := HV5q
                clear HV5q
                have LAq := Lib.hid (LA.out.next hb)
                clear LA
                have LA := LAq
                clear LAq
                have QWq := Lib.hid (QW.out.next hb)
                clear QW
                have QW := QWq
                clear QWq
                have T1q := Lib.hid (T1.out.next hb)
                clear T1
                have T1 := T1q
                clear T1q
                have Q2q := Lib.hid (Q2.out.next hb)
                clear Q2
                have Q2 := Q2q
                clear Q2q
                have T2q := Lib.hid (T2.out.next hb)
                clear T2
                have T2 := T2q
                clear T2q
                clear hb
                go_wp2
                go_roundg (nq - (k5 + 1))
                case measure => omega
                case rel => exact ⟨k5 + 1, rfl, by omega, by go_num, HV5.out⟩
            · go_wp2
              go_roundg (40 - (i + 1))
              case measure => omega
              case rel => exact ⟨i + 1, nw + x.more, _, n', _, q', rfl, rfl, by go_num, rfl, by omega, by omega, ⟨by omega, by omega⟩, Q2.out, ST.out.right, by rw [HL2.out]; omega, HW1.out⟩

end Go.Proofs.Ytimgdlddfnglaaa
