/- The program's when.Meets and may of layer 10: do two spans meet; may a holding be. Plain facts that the statements of layer 10 ask for. The statement HeldLater, as a walk over the contracts: of any table and three times the call returns true. Written by gen/gen_heldlaws.py. HeldLater holds: what is over is over later; what is busy in a span is busy in each one about it; in two spans side by side together just what is in both as one. The card of the statement HeldLater. No condition: every input, at the tables that the program's text lays. -/
import Derived.Test.YtbiofikijehlcaaDoorMg05
import Derived.Test.YtbiofikijehlcaaDoorMg04
import Derived.Test.YtbiofikijehlcaaDoorCards
import Derived.Test.YtbiofikijehlcaaDoorMg03
namespace Go.Proofs.YtbiofikijehlcaaDoor
open Go.RowKit

theorem meets_max (a b c d : Int) : meetsZ a b c d = decide (max a c < min b d) := by
  unfold meetsZ
  exact decide_eq_decide.2 (by omega)
theorem meets_any {a b c d : Int} {v : Bool} {w : World} (h : meetsZ a b c d = v) : Calls Tryd.prog 33 #[.int .i64 a, .int .i64 b, .int .i64 c, .int .i64 d] w fun e w' => e = .returned (.bool v) ∧ Below w.heap.size w w' := by
  rw [meets_max] at h
  obtain ⟨p, hp⟩ : ∃ p, max a c = p := ⟨_, rfl⟩
  obtain ⟨q, hq⟩ : ∃ q, min b d = q := ⟨_, rfl⟩
  rw [hp, hq] at h
  have HH := Lib.hid h
  clear h
  go_enter Tryd.func33, Tryd.ntmps33
  go_wp2
  all_goals
    go_ret
    exact ⟨ret_bl (HH.out.symm.trans (decide_eq_decide.2 (by omega))), Below.refl _ _⟩
theorem may_times (h : Hd) : mayH h = (decide (0 < h.things.length) && (rightB h.things && (timeB h.frm && (timeB h.to && decide (h.frm < h.to))))) := by
  unfold timeB
  rw [Bool.eq_iff_iff]
  unfold mayH
  simp only [decide_eq_true_eq, Bool.and_eq_true]
  unfold MayH
  constructor
  · rintro ⟨h1, h2, h3, h4, h5⟩
    exact ⟨h1, h2, ⟨h3, by omega⟩, ⟨by omega, h5⟩, h4⟩
  · rintro ⟨h1, h2, h3, h4, h5⟩
    exact ⟨h1, h2, h3.1, h5, h4.2⟩
theorem time_b {t : Int} {w : World} {b : Bool} (h : timeB t = b) : Calls Tryd.prog 37 #[.int .i64 t] w fun e w' => e = .returned (.bool b) ∧ Below w.heap.size w w' :=
  (whenRight_b t w b h).mono fun _ _ ⟨h1, h2⟩ => ⟨h1, by rw [← h2]; exact Below.refl _ _⟩

set_option maxRecDepth 100000 in
set_option maxHeartbeats 8000000 in
theorem may_any {A : Option Addr} {m c : Nat} {h : Hd} {w : World} {v : Bool} (hh : HAsk w A m c h) (hv : mayH h = v) :
    Calls Tryd.prog 23 #[.agg #[.int .i64 h.id, .slice A m c, .int .i64 h.frm, .int .i64 h.to]] w fun e w' => e = .returned (.bool v) ∧ Below w.heap.size w w' := by
  obtain ⟨W, hW⟩ : ∃ W, W = w.alloc (hO h A m c) := ⟨_, rfl⟩
  have BX : Hid (BoxH W w.heap.size h A m c) := Lib.hid (by rw [hW]; exact boxH_new w h A m c)
  have hb0 : Below w.heap.size w W := by rw [hW]; exact (Below.refl _ _).alloc (Nat.le_refl _) _
  have HB := Lib.hid hb0
  have HH := Lib.hid (hh.next hb0)
  have hml := hh.reads.1
  unfold hO at hW
  rw [may_times, hml] at hv
  have HV := Lib.hid hv
  clear hb0 hh hml hv
  have q0 := BX.out.c0
  have q1 := BX.out.c1
  have q2 := BX.out.c2
  have q3 := BX.out.c3
  by_cases h0 : 0 < m
  · have d0 : decide (0 < m) = true := decide_eq_true h0
    rw [d0, Bool.true_and] at HV
    cases hr : rightB h.things with
    | false =>
      rw [hr, Bool.false_and] at HV
      have HR := Lib.hid hr
      clear hr
      go_enter Tryd.func23, Tryd.ntmps23
      go_wp2_with fail
      rw [← hW]
      clear hW
      refine (s_isSet HH.out.reads HH.out.few HR.out).mono ?_
      rintro e w1 ⟨rfl, hb⟩
      have HB1 := Lib.hid (HB.out.trans (hb.mono HB.out.size))
      have BX1 := Lib.hid (BX.out.next hb)
      clear hb q0 q1 q2 q3
      go_wp2
      go_ret
      exact ⟨by rw [← HV.out]; rfl, HB1.out⟩
    | true =>
      rw [hr, Bool.true_and] at HV
      have HR := Lib.hid hr
      clear hr
      cases hf : timeB h.frm with
      | false =>
        rw [hf, Bool.false_and] at HV
        have HF := Lib.hid hf
        clear hf
        go_enter Tryd.func23, Tryd.ntmps23
        go_wp2_with fail
        rw [← hW]
        clear hW
        refine (s_isSet HH.out.reads HH.out.few HR.out).mono ?_
        rintro e w1 ⟨rfl, hb⟩
        have HB1 := Lib.hid (HB.out.trans (hb.mono HB.out.size))
        have BX1 := Lib.hid (BX.out.next hb)
        clear hb q0 q1 q2 q3
        have q2 := BX1.out.c2
        have q3 := BX1.out.c3
        go_wp2_with fail
        refine (time_b HF.out).mono ?_
        rintro e w2 ⟨rfl, hb⟩
        have HB2 := Lib.hid (HB1.out.trans (hb.mono HB1.out.size))
        clear hb q2 q3
        go_wp2
        go_ret
        exact ⟨by rw [← HV.out]; rfl, HB2.out⟩
      | true =>
        rw [hf, Bool.true_and] at HV
        have HF := Lib.hid hf
        clear hf
        cases ht : timeB h.to with
        | false =>
          rw [ht, Bool.false_and] at HV
          have HT := Lib.hid ht
          clear ht
          go_enter Tryd.func23, Tryd.ntmps23
          go_wp2_with fail
          rw [← hW]
          clear hW
          refine (s_isSet HH.out.reads HH.out.few HR.out).mono ?_
          rintro e w1 ⟨rfl, hb⟩
          have HB1 := Lib.hid (HB.out.trans (hb.mono HB.out.size))
          have BX1 := Lib.hid (BX.out.next hb)
          clear hb q0 q1 q2 q3
          have q2 := BX1.out.c2
          have q3 := BX1.out.c3
          go_wp2_with fail
          refine (time_b HF.out).mono ?_
          rintro e w2 ⟨rfl, hb⟩
          have HB2 := Lib.hid (HB1.out.trans (hb.mono HB1.out.size))
          have BX2 := Lib.hid (BX1.out.next hb)
          clear hb q2 q3
          have q2 := BX2.out.c2
          have q3 := BX2.out.c3
          go_wp2_with fail
          refine (time_b HT.out).mono ?_
          rintro e w3 ⟨rfl, hb⟩
          have HB3 := Lib.hid (HB2.out.trans (hb.mono HB2.out.size))
          clear hb q2 q3
          go_wp2
          go_ret
          exact ⟨by rw [← HV.out]; rfl, HB3.out⟩
        | true =>
          rw [ht, Bool.true_and] at HV
          have HT := Lib.hid ht
          clear ht
          have hv := HV.out
          go_enter Tryd.func23, Tryd.ntmps23
          go_wp2_with fail
          rw [← hW]
          clear hW
          refine (s_isSet HH.out.reads HH.out.few HR.out).mono ?_
          rintro e w1 ⟨rfl, hb⟩
          have HB1 := Lib.hid (HB.out.trans (hb.mono HB.out.size))
          have BX1 := Lib.hid (BX.out.next hb)
          clear hb q0 q1 q2 q3
          have q2 := BX1.out.c2
          have q3 := BX1.out.c3
          go_wp2_with fail
          refine (time_b HF.out).mono ?_
          rintro e w2 ⟨rfl, hb⟩
          have HB2 := Lib.hid (HB1.out.trans (hb.mono HB1.out.size))
          have BX2 := Lib.hid (BX1.out.next hb)
          clear hb q2 q3
          have q2 := BX2.out.c2
          have q3 := BX2.out.c3
          go_wp2_with fail
          refine (time_b HT.out).mono ?_
          rintro e w3 ⟨rfl, hb⟩
          have HB3 := Lib.hid (HB2.out.trans (hb.mono HB2.out.size))
          have BX3 := Lib.hid (BX2.out.next hb)
          clear hb q2 q3
          have q2 := BX3.out.c2
          have q3 := BX3.out.c3
          go_wp2
          all_goals
            go_ret
            exact ⟨ret_bl (by first | rfl | exact HV.out | (rw [← HV.out]; simp_all)), HB3.out⟩
  · have d0 : decide (0 < m) = false := decide_eq_false h0
    rw [d0, Bool.false_and] at HV
    go_enter Tryd.func23, Tryd.ntmps23
    go_wp2_with fail
    rw [← hW]
    clear hW
    go_wp2
    go_ret
    exact ⟨by rw [← HV.out]; rfl, HB.out⟩

end Go.Proofs.YtbiofikijehlcaaDoor

namespace Go.Proofs.YtbiofikijehlcaaDoor
open Go.RowKit

section
variable {l : Tb} {h a b : Hd}
theorem short_is (h : shortT l = true) : shortB l := by
  have := of_decide_eq_true h
  refine ⟨this.1, fun x hx => ?_⟩
  obtain ⟨j, hj, rfl⟩ := List.getElem_of_mem hx
  have h2 := this.2 j hj
  rwa [show l.getD j hd0 = l[j] by simp [List.getD, hj]] at h2
theorem short_few' (h : shortT l = true) : FewT l := short_few (short_is h)
theorem ins_short (hl : shortB l) (hh : h.things.length ≤ 60) : (insT l h).length ≤ 31 ∧ ∀ x ∈ insT l h, x.things.length ≤ 60 := by
  constructor
  · unfold insT
    have h1 := List.length_filter_le (fun x => decide (x.id < h.id)) l
    have : ∀ l : Tb, (l.filter fun x => decide (x.id < h.id)).length + (l.filter fun x => decide (h.id < x.id)).length ≤ l.length := by
      intro l
      induction l with
      | nil => simp
      | cons x l ih =>
        rw [List.filter_cons, List.filter_cons]
        by_cases h1 : x.id < h.id
        · have h2 : ¬ h.id < x.id := by omega
          simp [h1, h2]; omega
        · by_cases h2 : h.id < x.id <;> simp [h1, h2] <;> omega
    have := this l
    have h3 := hl.1
    simp; omega
  · intro x hx
    rcases mem_ins.1 hx with h1 | rfl
    · exact hl.2 x h1.1
    · exact hh
theorem ins_few (hl : shortB l) (hh : h.things.length ≤ 60) : FewT (insT l h) := by
  obtain ⟨h1, h2⟩ := ins_short hl hh
  exact ⟨by omega, fun x hx => by have := h2 x hx; omega⟩
theorem add_no (h0 : addE l h ≠ 0) : addT l h = l := if_neg h0
theorem add_yes (hm : MayAdd l h) : addT l h = insT l h := if_pos (add_ok.2 hm)
theorem sameT_self (l : Tb) : sameT' l l = true := sameT_iff.2 rfl
theorem MayAdd.gotT (hm : MayAdd l h) : gotT (insT l h) h.id = true := by
  unfold Go.Proofs.YtbiofikijehlcaaDoor.gotT
  rw [Bool.and_eq_true]
  exact ⟨rightT_is.2 hm.right', has_iff_id.2 ⟨h, hm.mem.2 (.inr rfl), rfl⟩⟩
theorem MayAdd.gotOld (hm : MayAdd l h) {x : Hd} (hx : x ∈ l) : Go.Proofs.YtbiofikijehlcaaDoor.gotT (insT l h) x.id = true := by
  unfold Go.Proofs.YtbiofikijehlcaaDoor.gotT
  rw [Bool.and_eq_true]
  exact ⟨rightT_is.2 hm.right', has_iff_id.2 ⟨x, hm.mem.2 (.inl hx), rfl⟩⟩
theorem MayAdd.dropE (hm : MayAdd l h) : Go.Proofs.YtbiofikijehlcaaDoor.dropE (insT l h) h.id = 0 := by
  have h1 := hm.gotT
  unfold Go.Proofs.YtbiofikijehlcaaDoor.gotT at h1
  rw [Bool.and_eq_true] at h1
  unfold Go.Proofs.YtbiofikijehlcaaDoor.dropE
  rw [h1.1, h1.2]; rfl
theorem MayAdd.dropT (hm : MayAdd l h) : Go.Proofs.YtbiofikijehlcaaDoor.dropT (insT l h) h.id = l := by
  unfold Go.Proofs.YtbiofikijehlcaaDoor.dropT
  rw [if_pos hm.dropE]
  exact hm.drop
theorem MayAdd.cutE (hm : MayAdd l h) (z : Int) : Go.Proofs.YtbiofikijehlcaaDoor.cutE (insT l h) h.id z = if z ≤ h.frm ∨ h.to < z then 1 else 0 := by
  have h1 := hm.gotT
  unfold Go.Proofs.YtbiofikijehlcaaDoor.gotT at h1
  rw [Bool.and_eq_true] at h1
  unfold Go.Proofs.YtbiofikijehlcaaDoor.cutE
  rw [h1.1, h1.2, getT_add hm]; rfl
theorem MayAdd.cutT (hm : MayAdd l h) {z : Int} (h1 : h.frm < z) (h2 : z ≤ h.to) : Go.Proofs.YtbiofikijehlcaaDoor.cutT (insT l h) h.id z = (insT l h).map (shortH h.id z) := by
  unfold Go.Proofs.YtbiofikijehlcaaDoor.cutT
  rw [if_pos (by rw [hm.cutE]; exact if_neg (by omega))]
  rfl
theorem MayAdd.cut_right (hm : MayAdd l h) {z : Int} (h1 : h.frm < z) (h2 : z ≤ h.to) : rightT ((insT l h).map (shortH h.id z)) = true :=
  rightT_is.2 (Go.Proofs.YtbiofikijehlcaaDoor.cut_right hm.right' (hm.mem.2 (.inr rfl)) h1 h2)
theorem cut_over {id z : Int} (hr : rightT (l.map (shortH id z)) = true) : gotT (restT (l.map (shortH id z)) z) id = false := by
  unfold gotT
  rw [Bool.and_eq_false_iff]
  right
  rw [has_no]
  intro x hx he
  unfold restT at hx
  rw [if_pos hr, List.mem_filter] at hx
  obtain ⟨h1, h2⟩ := hx
  obtain ⟨y, _, rfl⟩ := List.mem_map.1 h1
  rw [short_id] at he
  have : (shortH id z y).to = z := by unfold shortH; rw [if_pos he]
  rw [this] at h2
  simp at h2
theorem over_len (l : Tb) (z : Int) : (restT l z).length + (goneT l z).length = l.length := by
  unfold restT goneT
  split
  · induction l with
    | nil => rfl
    | cons x l ih =>
      have : ∀ l : Tb, (l.filter fun x => decide (z < x.to)).length + (l.filter fun x => decide (x.to ≤ z)).length = l.length := by
        intro l
        induction l with
        | nil => rfl
        | cons x l ih =>
          rw [List.filter_cons, List.filter_cons]
          by_cases h1 : z < x.to
          · have h2 : ¬ x.to ≤ z := by omega
            simp [h1, h2]; omega
          · have h2 : x.to ≤ z := by omega
            simp [h1, h2]; omega
      exact this _
  · simp
theorem map_few {f : Hd → Hd} (hf : ∀ x, (f x).things = x.things) (h : FewT l) : FewT (l.map f) := by
  refine ⟨by simpa using h.1, fun x hx => ?_⟩
  obtain ⟨y, hy, rfl⟩ := List.mem_map.1 hx
  rw [hf]; exact h.2 y hy
theorem rest_few (h : FewT l) (z : Int) : FewT (restT l z) := by
  unfold restT
  split
  · exact ⟨Nat.le_trans (List.length_filter_le _ _) h.1, fun x hx => h.2 x (List.mem_filter.1 hx).1⟩
  · exact h
theorem gone_few (h : FewT l) (z : Int) : (goneT l z).length ≤ 100 := by
  unfold goneT
  split
  · exact Nat.le_trans (List.length_filter_le _ _) h.1
  · simp
theorem busy_len (l : Tb) (a b : Int) : (busyT l a b).length ≤ 256 := by
  unfold busyT
  split
  · exact length_pickL _
  · simp
theorem sumN_at {l : Tb} (t : Int) {k : Nat} (hk : k < l.length) {x : Hd} (hx : l.getD k hd0 = x) : sumN l t (k + 1) = sumN l t k + if meetsZ x.frm x.to t (t + 1) = true then x.things.length else 0 := by
  have h : l[k] = x := by rw [← hx, List.getD, List.getElem?_eq_getElem hk]; rfl
  rw [sumN_succ t hk, h]
theorem sumN_le {l : Tb} (h : shortB l) (t : Int) : ∀ k, k ≤ l.length → sumN l t k ≤ 60 * k
  | 0, _ => by unfold sumN; simp
  | k + 1, hk => by
    have h1 := sumN_le h t k (by omega)
    have h2 := h.2 l[k] (List.getElem_mem (by omega))
    rw [sumN_succ t (by omega)]
    split <;> omega
theorem sumN_few {l : Tb} (h : shortB l) (t : Int) {k : Nat} (hk : k ≤ l.length) : sumN l t k ≤ 1800 := by
  have h1 := sumN_le h t k hk
  have h2 := h.1
  omega
theorem addE_bad (hm : mayH h = false) : addE l h = 1 := by
  unfold addE
  rw [if_pos (by rw [hm, Bool.and_false])]
theorem addE_there (hr : rightT l = true) (hm : mayH h = true) (ht : hasT l h.id = true) : addE l h = 7 := by
  unfold addE
  rw [if_neg (by rw [hr, hm]; simp), if_pos ht]
theorem addE_apart (hr : rightT l = true) (hm : mayH h = true) (ht : hasT l h.id = false) (hl : l.length ≤ 30) : (addE l h == 0) = apartB (busyT l h.frm h.to) h.things := by
  have e : addE l h = if (l.any fun x => clashH x h) = true then 5 else 0 := by
    unfold addE
    rw [if_neg (by rw [hr, hm]; simp), if_neg (by rw [ht]; simp)]
    by_cases hc : (l.any fun x => clashH x h) = true
    · rw [if_pos (.inr hc), if_pos hc]
    · rw [if_neg (fun h1 => h1.elim (fun h1 => by omega) hc), if_neg hc]
  have hrh := (of_decide_eq_true hm).2.1
  have ha : apartB (busyT l h.frm h.to) h.things = !(l.any fun x => clashH x h) := by
    rw [Bool.eq_iff_iff]
    unfold apartB
    rw [busy_right, hrh, Bool.true_and, Bool.true_and, List.all_eq_true, Bool.not_eq_true', List.any_eq_false]
    constructor
    · intro hh x hx hcl
      unfold clashH at hcl
      rw [Bool.and_eq_true] at hcl
      obtain ⟨n, h1, h2⟩ := touch_iff.1 hcl.2
      have := hh n ((mem_busy hr).2 ⟨x, hx, hcl.1, h1⟩)
      rw [List.contains_iff_mem.2 h2] at this
      cases this
    · intro hh n hn
      obtain ⟨x, hx, h1, h2⟩ := (mem_busy hr).1 hn
      have := hh x hx
      cases hc : h.things.contains n with
      | false => rfl
      | true =>
        refine absurd ?_ this
        unfold clashH
        rw [h1, touch_iff.2 ⟨n, h2, List.contains_iff_mem.1 hc⟩]
        rfl
  rw [e, ha]
  cases l.any fun x => clashH x h <;> rfl
theorem got_is (hr : rightT l = true) (id : Int) : gotT l id = hasT l id := by unfold gotT; rw [hr, Bool.true_and]
theorem getD_in {l : Tb} {j : Nat} (hj : j < l.length) : l.getD j hd0 ∈ l := by
  rw [List.getD, List.getElem?_eq_getElem hj]; exact List.getElem_mem hj
theorem ends_len (l : Tb) (z : Int) : (endsT l z).length ≤ l.length := by
  unfold endsT
  split
  · have key : ∀ (x : Int) (l : List Int), (insZ x l).length ≤ l.length + 1 := by
      intro x l
      induction l with
      | nil => simp [insZ]
      | cons y r ih =>
        unfold insZ
        split
        · simp
        · split <;> simp
          omega
    have h1 : ∀ l : List Int, (l.foldr insZ []).length ≤ l.length := by
      intro l
      induction l with
      | nil => simp
      | cons x r ih =>
        have := key x (r.foldr insZ [])
        simp only [List.foldr_cons, List.length_cons]
        omega
    have h2 := h1 ((l.map Hd.to).filter fun t => decide (z < t))
    have h3 := List.length_filter_le (fun t : Int => decide (z < t)) (l.map Hd.to)
    rw [List.length_map] at h3
    omega
  · simp
end
section
variable {A : Option Addr} {n c : Nat} {A2 : Option Addr} {n2 c2 : Nat} {l a b : Tb} {w : World}
theorem short_b (hl : TAsk w A n c l) {v : Bool} (e : shortT l = v) : Calls Tryd.prog 5 #[.slice A n c] w fun e w' => e = .returned (.bool v) ∧ Below w.heap.size w w' := by
  subst e
  refine (refShort_any A n c l w hl.reads hl.few).mono ?_
  rintro e w' ⟨rfl, rfl⟩
  exact ⟨rfl, Below.refl _ _⟩
theorem sameT_b (ha : TAsk w A n c a) (hb : TAsk w A2 n2 c2 b) {v : Bool} (e : sameT' a b = v) : Calls Tryd.prog 7 #[.slice A n c, .slice A2 n2 c2] w fun e w' => e = .returned (.bool v) ∧ Below w.heap.size w w' := by
  subst e; exact refSameT_any A n c A2 n2 c2 a b w ha.reads hb.reads ha.few hb.few
end

end Go.Proofs.YtbiofikijehlcaaDoor

namespace Go.Proofs.YtbiofikijehlcaaDoor
open Go.RowKit

set_option maxRecDepth 100000 in
set_option maxHeartbeats 8000000 in
theorem heldLater_l0 (H : HeldOk) (A : Option Addr) (n c : Nat) (l : Tb) (a b z : Int) (w : World) (hl : TAsk w A n c l) (hG : Glob w) (h0 : shortT l = false) :
    Calls Tryd.prog 3 #[.slice A n c, .int .i64 a, .int .i64 b, .int .i64 z] w fun e w' => e = .returned (.bool true) ∧ Below w.heap.size w w' := by
  have HB := Lib.hid (Below.refl w.heap.size w)
  have T0 := Lib.hid hl
  have HG := Lib.hid hG
  have E0 := Lib.hid h0
  clear hl hG h0
  go_enter Tryd.func3, Tryd.ntmps3
  go_wp2_with fail
  refine (awake10_any H _).mono ?_
  rintro e w1 ⟨rfl, hb⟩
  have HBq := Lib.hid (HB.out.trans (hb.mono HB.out.size))
  clear HB
  have HB := HBq
  clear HBq
  have T0q := Lib.hid (T0.out.next hb)
  clear T0
  have T0 := T0q
  clear T0q
  have HGq := Lib.hid (HG.out.next hb)
  clear HG
  have HG := HGq
  clear HGq
  clear hb
  go_wp2_with fail
  refine (short_b T0.out E0.out).mono ?_
  rintro e w2 ⟨rfl, hb⟩
  have HBq := Lib.hid (HB.out.trans (hb.mono HB.out.size))
  clear HB
  have HB := HBq
  clear HBq
  have T0q := Lib.hid (T0.out.next hb)
  clear T0
  have T0 := T0q
  clear T0q
  have HGq := Lib.hid (HG.out.next hb)
  clear HG
  have HG := HGq
  clear HGq
  clear hb
  go_wp2
  go_ret
  exact ⟨rfl, HB.out⟩

set_option maxRecDepth 100000 in
set_option maxHeartbeats 8000000 in
theorem heldLater_l1 (H : HeldOk) (A : Option Addr) (n c : Nat) (l : Tb) (a b z : Int) (w : World) (hl : TAsk w A n c l) (hG : Glob w) (h0 : shortT l = true) (h1 : b < a) :
    Calls Tryd.prog 3 #[.slice A n c, .int .i64 a, .int .i64 b, .int .i64 z] w fun e w' => e = .returned (.bool true) ∧ Below w.heap.size w w' := by
  have HB := Lib.hid (Below.refl w.heap.size w)
  have T0 := Lib.hid hl
  have HG := Lib.hid hG
  have E0 := Lib.hid h0
  have d1 : decide (b < a) = true := decide_eq_true h1
  clear hl hG h0 h1
  go_enter Tryd.func3, Tryd.ntmps3
  go_wp2_with fail
  refine (awake10_any H _).mono ?_
  rintro e w1 ⟨rfl, hb⟩
  have HBq := Lib.hid (HB.out.trans (hb.mono HB.out.size))
  clear HB
  have HB := HBq
  clear HBq
  have T0q := Lib.hid (T0.out.next hb)
  clear T0
  have T0 := T0q
  clear T0q
  have HGq := Lib.hid (HG.out.next hb)
  clear HG
  have HG := HGq
  clear HGq
  clear hb
  go_wp2_with fail
  refine (short_b T0.out E0.out).mono ?_
  rintro e w2 ⟨rfl, hb⟩
  have HBq := Lib.hid (HB.out.trans (hb.mono HB.out.size))
  clear HB
  have HB := HBq
  clear HBq
  have T0q := Lib.hid (T0.out.next hb)
  clear T0
  have T0 := T0q
  clear T0q
  have HGq := Lib.hid (HG.out.next hb)
  clear HG
  have HG := HGq
  clear HGq
  clear hb
  go_wp2
  go_ret
  exact ⟨rfl, HB.out⟩

set_option maxRecDepth 100000 in
set_option maxHeartbeats 8000000 in
theorem heldLater_l2 (H : HeldOk) (A : Option Addr) (n c : Nat) (l : Tb) (a b z : Int) (w : World) (hl : TAsk w A n c l) (hG : Glob w) (h0 : shortT l = true) (h1 : ¬ b < a) (h2 : z < b) :
    Calls Tryd.prog 3 #[.slice A n c, .int .i64 a, .int .i64 b, .int .i64 z] w fun e w' => e = .returned (.bool true) ∧ Below w.heap.size w w' := by
  have HB := Lib.hid (Below.refl w.heap.size w)
  have T0 := Lib.hid hl
  have HG := Lib.hid hG
  have E0 := Lib.hid h0
  have d1 : decide (b < a) = false := decide_eq_false h1
  have d2 : decide (z < b) = true := decide_eq_true h2
  clear hl hG h0 h1 h2
  go_enter Tryd.func3, Tryd.ntmps3
  go_wp2_with fail
  refine (awake10_any H _).mono ?_
  rintro e w1 ⟨rfl, hb⟩
  have HBq := Lib.hid (HB.out.trans (hb.mono HB.out.size))
  clear HB
  have HB := HBq
  clear HBq
  have T0q := Lib.hid (T0.out.next hb)
  clear T0
  have T0 := T0q
  clear T0q
  have HGq := Lib.hid (HG.out.next hb)
  clear HG
  have HG := HGq
  clear HGq
  clear hb
  go_wp2_with fail
  refine (short_b T0.out E0.out).mono ?_
  rintro e w2 ⟨rfl, hb⟩
  have HBq := Lib.hid (HB.out.trans (hb.mono HB.out.size))
  clear HB
  have HB := HBq
  clear HBq
  have T0q := Lib.hid (T0.out.next hb)
  clear T0
  have T0 := T0q
  clear T0q
  have HGq := Lib.hid (HG.out.next hb)
  clear HG
  have HG := HGq
  clear HGq
  clear hb
  go_wp2
  go_ret
  exact ⟨rfl, HB.out⟩

set_option maxRecDepth 100000 in
set_option maxHeartbeats 8000000 in
theorem heldLater_e1 (H : HeldOk) (A : Option Addr) (n c : Nat) (l : Tb) (a b z : Int) (w : World) (hl : TAsk w A n c l) (hG : Glob w) (h0 : shortT l = true) (h1 : ¬ b < a) (h2 : ¬ z < b) (h3 : a = b) :
    Calls Tryd.prog 3 #[.slice A n c, .int .i64 a, .int .i64 b, .int .i64 z] w fun e w' => e = .returned (.bool true) ∧ Below w.heap.size w w' := by
  have HB := Lib.hid (Below.refl w.heap.size w)
  have T0 := Lib.hid hl
  have HG := Lib.hid hG
  have E0 := Lib.hid h0
  have F0 := Lib.hid (short_few' h0)
  have d1 : decide (b < a) = false := decide_eq_false h1
  have d2 : decide (z < b) = false := decide_eq_false h2
  have FX0 : FewT (restT l a) := rest_few F0.out a
  have FY0 : FewT (restT l b) := rest_few F0.out b
  have hrr : restT (restT l a) b = restT l b := rest_rest (by omega)
  have hpa := busy_part (l := l) (a := a) (b := b) (c := z) (by omega)
  have FS0 := busy_len l a b
  have FT0 := busy_len l a z
  have FU0 := busy_len l b z
  have hbj : a < b → b < z → joinL (busyT l a b) (busyT l b z) = busyT l a z := fun x y => busy_join x y
  obtain ⟨x, ex⟩ : ∃ r, restT l a = r := ⟨_, rfl⟩
  obtain ⟨y, ey⟩ : ∃ r, restT l b = r := ⟨_, rfl⟩
  obtain ⟨s, es⟩ : ∃ r, busyT l a b = r := ⟨_, rfl⟩
  obtain ⟨t, et⟩ : ∃ r, busyT l a z = r := ⟨_, rfl⟩
  obtain ⟨u, eu⟩ : ∃ r, busyT l b z = r := ⟨_, rfl⟩
  rw [ex] at FX0 hrr
  rw [ey] at FY0 hrr
  rw [es] at FS0 hpa hbj
  rw [et] at FT0 hpa hbj
  rw [eu] at FU0 hbj
  have FX := Lib.hid FX0
  have FY := Lib.hid FY0
  have FS := Lib.hid FS0
  have FT := Lib.hid FT0
  have FU := Lib.hid FU0
  have EX := Lib.hid ex
  have EY := Lib.hid ey
  have ES := Lib.hid es
  have ET := Lib.hid et
  have EU := Lib.hid eu
  have RR := Lib.hid hrr
  have PA := Lib.hid hpa
  have BJ := Lib.hid hbj
  clear hl hG h0 FX0 FY0 FS0 FT0 FU0 ex ey es et eu hrr hpa hbj
  have d3 : (a == b) = true := by simpa using h3
  clear h1 h2 h3
  go_enter Tryd.func3, Tryd.ntmps3
  go_wp2_with fail
  refine (awake10_any H _).mono ?_
  rintro e w1 ⟨rfl, hb⟩
  have HBq := Lib.hid (HB.out.trans (hb.mono HB.out.size))
  clear HB
  have HB := HBq
  clear HBq
  have T0q := Lib.hid (T0.out.next hb)
  clear T0
  have T0 := T0q
  clear T0q
  have HGq := Lib.hid (HG.out.next hb)
  clear HG
  have HG := HGq
  clear HGq
  clear hb
  go_wp2_with fail
  refine (short_b T0.out E0.out).mono ?_
  rintro e w2 ⟨rfl, hb⟩
  have HBq := Lib.hid (HB.out.trans (hb.mono HB.out.size))
  clear HB
  have HB := HBq
  clear HBq
  have T0q := Lib.hid (T0.out.next hb)
  clear T0
  have T0 := T0q
  clear T0q
  have HGq := Lib.hid (HG.out.next hb)
  clear HG
  have HG := HGq
  clear HGq
  clear hb
  go_wp2_with fail
  refine (h10_over H T0.out F0.out EX.out rfl).mono ?_
  rintro e w3 ⟨⟨A1, c1, B1, d1, rfl, hr1, hs1, ⟨hn1, hc1⟩, ⟨hp1, hd1⟩⟩, hb⟩
  have HBq := Lib.hid (HB.out.trans (hb.mono HB.out.size))
  clear HB
  have HB := HBq
  clear HBq
  have T0q := Lib.hid (T0.out.next hb)
  clear T0
  have T0 := T0q
  clear T0q
  have HGq := Lib.hid (HG.out.next hb)
  clear HG
  have HG := HGq
  clear HGq
  clear hb
  have T1 := Lib.hid (ans_ask hr1 hn1 hc1 (by have := FX.out.1; unfold maxLen; omega))
  clear hr1 hs1 hn1 hc1 hp1 hd1
  go_wp2_with fail
  refine (h10_over H T1.out FX.out RR.out rfl).mono ?_
  rintro e w4 ⟨⟨A2, c2, B2, d2, rfl, hr2, hs2, ⟨hn2, hc2⟩, ⟨hp2, hd2⟩⟩, hb⟩
  have HBq := Lib.hid (HB.out.trans (hb.mono HB.out.size))
  clear HB
  have HB := HBq
  clear HBq
  have T0q := Lib.hid (T0.out.next hb)
  clear T0
  have T0 := T0q
  clear T0q
  have HGq := Lib.hid (HG.out.next hb)
  clear HG
  have HG := HGq
  clear HGq
  have T1q := Lib.hid (T1.out.next hb)
  clear T1
  have T1 := T1q
  clear T1q
  clear hb
  have T2 := Lib.hid (ans_ask hr2 hn2 hc2 (by have := FY.out.1; unfold maxLen; omega))
  clear hr2 hs2 hn2 hc2 hp2 hd2
  go_wp2_with fail
  refine (h10_over H T0.out F0.out EY.out rfl).mono ?_
  rintro e w5 ⟨⟨A3, c3, B3, d3, rfl, hr3, hs3, ⟨hn3, hc3⟩, ⟨hp3, hd3⟩⟩, hb⟩
  have HBq := Lib.hid (HB.out.trans (hb.mono HB.out.size))
  clear HB
  have HB := HBq
  clear HBq
  have T0q := Lib.hid (T0.out.next hb)
  clear T0
  have T0 := T0q
  clear T0q
  have HGq := Lib.hid (HG.out.next hb)
  clear HG
  have HG := HGq
  clear HGq
  have T1q := Lib.hid (T1.out.next hb)
  clear T1
  have T1 := T1q
  clear T1q
  have T2q := Lib.hid (T2.out.next hb)
  clear T2
  have T2 := T2q
  clear T2q
  clear hb
  have T3 := Lib.hid (ans_ask hr3 hn3 hc3 (by have := FY.out.1; unfold maxLen; omega))
  clear hr3 hs3 hn3 hc3 hp3 hd3
  go_wp2_with fail
  refine (sameT_b T2.out T3.out (sameT_self _)).mono ?_
  rintro e w6 ⟨rfl, hb⟩
  have HBq := Lib.hid (HB.out.trans (hb.mono HB.out.size))
  clear HB
  have HB := HBq
  clear HBq
  have T0q := Lib.hid (T0.out.next hb)
  clear T0
  have T0 := T0q
  clear T0q
  have HGq := Lib.hid (HG.out.next hb)
  clear HG
  have HG := HGq
  clear HGq
  have T1q := Lib.hid (T1.out.next hb)
  clear T1
  have T1 := T1q
  clear T1q
  have T2q := Lib.hid (T2.out.next hb)
  clear T2
  have T2 := T2q
  clear T2q
  have T3q := Lib.hid (T3.out.next hb)
  clear T3
  have T3 := T3q
  clear T3q
  clear hb
  go_wp2_with fail
  refine (h10_busy H T0.out F0.out ES.out).mono ?_
  rintro e w7 ⟨⟨A4, c4, rfl, hr4, hnil4, hc4⟩, hb⟩
  have HBq := Lib.hid (HB.out.trans (hb.mono HB.out.size))
  clear HB
  have HB := HBq
  clear HBq
  have T0q := Lib.hid (T0.out.next hb)
  clear T0
  have T0 := T0q
  clear T0q
  have HGq := Lib.hid (HG.out.next hb)
  clear HG
  have HG := HGq
  clear HGq
  have T1q := Lib.hid (T1.out.next hb)
  clear T1
  have T1 := T1q
  clear T1q
  have T2q := Lib.hid (T2.out.next hb)
  clear T2
  have T2 := T2q
  clear T2q
  have T3q := Lib.hid (T3.out.next hb)
  clear T3
  have T3 := T3q
  clear T3q
  clear hb
  have R4 := Lib.hid hr4
  clear hr4 hnil4 hc4
  go_wp2_with fail
  refine (h10_busy H T0.out F0.out ET.out).mono ?_
  rintro e w8 ⟨⟨A5, c5, rfl, hr5, hnil5, hc5⟩, hb⟩
  have HBq := Lib.hid (HB.out.trans (hb.mono HB.out.size))
  clear HB
  have HB := HBq
  clear HBq
  have T0q := Lib.hid (T0.out.next hb)
  clear T0
  have T0 := T0q
  clear T0q
  have HGq := Lib.hid (HG.out.next hb)
  clear HG
  have HG := HGq
  clear HGq
  have T1q := Lib.hid (T1.out.next hb)
  clear T1
  have T1 := T1q
  clear T1q
  have T2q := Lib.hid (T2.out.next hb)
  clear T2
  have T2 := T2q
  clear T2q
  have T3q := Lib.hid (T3.out.next hb)
  clear T3
  have T3 := T3q
  clear T3q
  have R4q := Lib.hid (R4.out.next hb)
  clear R4
  have R4 := R4q
  clear R4q
  clear hb
  have R5 := Lib.hid hr5
  clear hr5 hnil5 hc5
  go_wp2_with fail
  refine (s_part R4.out R5.out (by have := FS.out; unfold maxLen; omega) (by have := FT.out; unfold maxLen; omega) PA.out).mono ?_
  rintro e w9 ⟨rfl, hb⟩
  have HBq := Lib.hid (HB.out.trans (hb.mono HB.out.size))
  clear HB
  have HB := HBq
  clear HBq
  have T0q := Lib.hid (T0.out.next hb)
  clear T0
  have T0 := T0q
  clear T0q
  have HGq := Lib.hid (HG.out.next hb)
  clear HG
  have HG := HGq
  clear HGq
  have T1q := Lib.hid (T1.out.next hb)
  clear T1
  have T1 := T1q
  clear T1q
  have T2q := Lib.hid (T2.out.next hb)
  clear T2
  have T2 := T2q
  clear T2q
  have T3q := Lib.hid (T3.out.next hb)
  clear T3
  have T3 := T3q
  clear T3q
  have R4q := Lib.hid (R4.out.next hb)
  clear R4
  have R4 := R4q
  clear R4q
  have R5q := Lib.hid (R5.out.next hb)
  clear R5
  have R5 := R5q
  clear R5q
  clear hb
  go_wp2
  go_ret
  exact ⟨rfl, HB.out⟩

set_option maxRecDepth 100000 in
set_option maxHeartbeats 8000000 in
theorem heldLater_e2 (H : HeldOk) (A : Option Addr) (n c : Nat) (l : Tb) (a b z : Int) (w : World) (hl : TAsk w A n c l) (hG : Glob w) (h0 : shortT l = true) (h1 : ¬ b < a) (h2 : ¬ z < b) (h3 : ¬ a = b) (h4 : b = z) :
    Calls Tryd.prog 3 #[.slice A n c, .int .i64 a, .int .i64 b, .int .i64 z] w fun e w' => e = .returned (.bool true) ∧ Below w.heap.size w w' := by
  have HB := Lib.hid (Below.refl w.heap.size w)
  have T0 := Lib.hid hl
  have HG := Lib.hid hG
  have E0 := Lib.hid h0
  have F0 := Lib.hid (short_few' h0)
  have d1 : decide (b < a) = false := decide_eq_false h1
  have d2 : decide (z < b) = false := decide_eq_false h2
  have FX0 : FewT (restT l a) := rest_few F0.out a
  have FY0 : FewT (restT l b) := rest_few F0.out b
  have hrr : restT (restT l a) b = restT l b := rest_rest (by omega)
  have hpa := busy_part (l := l) (a := a) (b := b) (c := z) (by omega)
  have FS0 := busy_len l a b
  have FT0 := busy_len l a z
  have FU0 := busy_len l b z
  have hbj : a < b → b < z → joinL (busyT l a b) (busyT l b z) = busyT l a z := fun x y => busy_join x y
  obtain ⟨x, ex⟩ : ∃ r, restT l a = r := ⟨_, rfl⟩
  obtain ⟨y, ey⟩ : ∃ r, restT l b = r := ⟨_, rfl⟩
  obtain ⟨s, es⟩ : ∃ r, busyT l a b = r := ⟨_, rfl⟩
  obtain ⟨t, et⟩ : ∃ r, busyT l a z = r := ⟨_, rfl⟩
  obtain ⟨u, eu⟩ : ∃ r, busyT l b z = r := ⟨_, rfl⟩
  rw [ex] at FX0 hrr
  rw [ey] at FY0 hrr
  rw [es] at FS0 hpa hbj
  rw [et] at FT0 hpa hbj
  rw [eu] at FU0 hbj
  have FX := Lib.hid FX0
  have FY := Lib.hid FY0
  have FS := Lib.hid FS0
  have FT := Lib.hid FT0
  have FU := Lib.hid FU0
  have EX := Lib.hid ex
  have EY := Lib.hid ey
  have ES := Lib.hid es
  have ET := Lib.hid et
  have EU := Lib.hid eu
  have RR := Lib.hid hrr
  have PA := Lib.hid hpa
  have BJ := Lib.hid hbj
  clear hl hG h0 FX0 FY0 FS0 FT0 FU0 ex ey es et eu hrr hpa hbj
  have d3 : (a == b) = false := by simpa using h3
  have d4 : (b == z) = true := by simpa using h4
  clear h1 h2 h3 h4
  go_enter Tryd.func3, Tryd.ntmps3
  go_wp2_with fail
  refine (awake10_any H _).mono ?_
  rintro e w1 ⟨rfl, hb⟩
  have HBq := Lib.hid (HB.out.trans (hb.mono HB.out.size))
  clear HB
  have HB := HBq
  clear HBq
  have T0q := Lib.hid (T0.out.next hb)
  clear T0
  have T0 := T0q
  clear T0q
  have HGq := Lib.hid (HG.out.next hb)
  clear HG
  have HG := HGq
  clear HGq
  clear hb
  go_wp2_with fail
  refine (short_b T0.out E0.out).mono ?_
  rintro e w2 ⟨rfl, hb⟩
  have HBq := Lib.hid (HB.out.trans (hb.mono HB.out.size))
  clear HB
  have HB := HBq
  clear HBq
  have T0q := Lib.hid (T0.out.next hb)
  clear T0
  have T0 := T0q
  clear T0q
  have HGq := Lib.hid (HG.out.next hb)
  clear HG
  have HG := HGq
  clear HGq
  clear hb
  go_wp2_with fail
  refine (h10_over H T0.out F0.out EX.out rfl).mono ?_
  rintro e w3 ⟨⟨A1, c1, B1, d1, rfl, hr1, hs1, ⟨hn1, hc1⟩, ⟨hp1, hd1⟩⟩, hb⟩
  have HBq := Lib.hid (HB.out.trans (hb.mono HB.out.size))
  clear HB
  have HB := HBq
  clear HBq
  have T0q := Lib.hid (T0.out.next hb)
  clear T0
  have T0 := T0q
  clear T0q
  have HGq := Lib.hid (HG.out.next hb)
  clear HG
  have HG := HGq
  clear HGq
  clear hb
  have T1 := Lib.hid (ans_ask hr1 hn1 hc1 (by have := FX.out.1; unfold maxLen; omega))
  clear hr1 hs1 hn1 hc1 hp1 hd1
  go_wp2_with fail
  refine (h10_over H T1.out FX.out RR.out rfl).mono ?_
  rintro e w4 ⟨⟨A2, c2, B2, d2, rfl, hr2, hs2, ⟨hn2, hc2⟩, ⟨hp2, hd2⟩⟩, hb⟩
  have HBq := Lib.hid (HB.out.trans (hb.mono HB.out.size))
  clear HB
  have HB := HBq
  clear HBq
  have T0q := Lib.hid (T0.out.next hb)
  clear T0
  have T0 := T0q
  clear T0q
  have HGq := Lib.hid (HG.out.next hb)
  clear HG
  have HG := HGq
  clear HGq
  have T1q := Lib.hid (T1.out.next hb)
  clear T1
  have T1 := T1q
  clear T1q
  clear hb
  have T2 := Lib.hid (ans_ask hr2 hn2 hc2 (by have := FY.out.1; unfold maxLen; omega))
  clear hr2 hs2 hn2 hc2 hp2 hd2
  go_wp2_with fail
  refine (h10_over H T0.out F0.out EY.out rfl).mono ?_
  rintro e w5 ⟨⟨A3, c3, B3, d3, rfl, hr3, hs3, ⟨hn3, hc3⟩, ⟨hp3, hd3⟩⟩, hb⟩
  have HBq := Lib.hid (HB.out.trans (hb.mono HB.out.size))
  clear HB
  have HB := HBq
  clear HBq
  have T0q := Lib.hid (T0.out.next hb)
  clear T0
  have T0 := T0q
  clear T0q
  have HGq := Lib.hid (HG.out.next hb)
  clear HG
  have HG := HGq
  clear HGq
  have T1q := Lib.hid (T1.out.next hb)
  clear T1
  have T1 := T1q
  clear T1q
  have T2q := Lib.hid (T2.out.next hb)
  clear T2
  have T2 := T2q
  clear T2q
  clear hb
  have T3 := Lib.hid (ans_ask hr3 hn3 hc3 (by have := FY.out.1; unfold maxLen; omega))
  clear hr3 hs3 hn3 hc3 hp3 hd3
  go_wp2_with fail
  refine (sameT_b T2.out T3.out (sameT_self _)).mono ?_
  rintro e w6 ⟨rfl, hb⟩
  have HBq := Lib.hid (HB.out.trans (hb.mono HB.out.size))
  clear HB
  have HB := HBq
  clear HBq
  have T0q := Lib.hid (T0.out.next hb)
  clear T0
  have T0 := T0q
  clear T0q
  have HGq := Lib.hid (HG.out.next hb)
  clear HG
  have HG := HGq
  clear HGq
  have T1q := Lib.hid (T1.out.next hb)
  clear T1
  have T1 := T1q
  clear T1q
  have T2q := Lib.hid (T2.out.next hb)
  clear T2
  have T2 := T2q
  clear T2q
  have T3q := Lib.hid (T3.out.next hb)
  clear T3
  have T3 := T3q
  clear T3q
  clear hb
  go_wp2_with fail
  refine (h10_busy H T0.out F0.out ES.out).mono ?_
  rintro e w7 ⟨⟨A4, c4, rfl, hr4, hnil4, hc4⟩, hb⟩
  have HBq := Lib.hid (HB.out.trans (hb.mono HB.out.size))
  clear HB
  have HB := HBq
  clear HBq
  have T0q := Lib.hid (T0.out.next hb)
  clear T0
  have T0 := T0q
  clear T0q
  have HGq := Lib.hid (HG.out.next hb)
  clear HG
  have HG := HGq
  clear HGq
  have T1q := Lib.hid (T1.out.next hb)
  clear T1
  have T1 := T1q
  clear T1q
  have T2q := Lib.hid (T2.out.next hb)
  clear T2
  have T2 := T2q
  clear T2q
  have T3q := Lib.hid (T3.out.next hb)
  clear T3
  have T3 := T3q
  clear T3q
  clear hb
  have R4 := Lib.hid hr4
  clear hr4 hnil4 hc4
  go_wp2_with fail
  refine (h10_busy H T0.out F0.out ET.out).mono ?_
  rintro e w8 ⟨⟨A5, c5, rfl, hr5, hnil5, hc5⟩, hb⟩
  have HBq := Lib.hid (HB.out.trans (hb.mono HB.out.size))
  clear HB
  have HB := HBq
  clear HBq
  have T0q := Lib.hid (T0.out.next hb)
  clear T0
  have T0 := T0q
  clear T0q
  have HGq := Lib.hid (HG.out.next hb)
  clear HG
  have HG := HGq
  clear HGq
  have T1q := Lib.hid (T1.out.next hb)
  clear T1
  have T1 := T1q
  clear T1q
  have T2q := Lib.hid (T2.out.next hb)
  clear T2
  have T2 := T2q
  clear T2q
  have T3q := Lib.hid (T3.out.next hb)
  clear T3
  have T3 := T3q
  clear T3q
  have R4q := Lib.hid (R4.out.next hb)
  clear R4
  have R4 := R4q
  clear R4q
  clear hb
  have R5 := Lib.hid hr5
  clear hr5 hnil5 hc5
  go_wp2_with fail
  refine (s_part R4.out R5.out (by have := FS.out; unfold maxLen; omega) (by have := FT.out; unfold maxLen; omega) PA.out).mono ?_
  rintro e w9 ⟨rfl, hb⟩
  have HBq := Lib.hid (HB.out.trans (hb.mono HB.out.size))
  clear HB
  have HB := HBq
  clear HBq
  have T0q := Lib.hid (T0.out.next hb)
  clear T0
  have T0 := T0q
  clear T0q
  have HGq := Lib.hid (HG.out.next hb)
  clear HG
  have HG := HGq
  clear HGq
  have T1q := Lib.hid (T1.out.next hb)
  clear T1
  have T1 := T1q
  clear T1q
  have T2q := Lib.hid (T2.out.next hb)
  clear T2
  have T2 := T2q
  clear T2q
  have T3q := Lib.hid (T3.out.next hb)
  clear T3
  have T3 := T3q
  clear T3q
  have R4q := Lib.hid (R4.out.next hb)
  clear R4
  have R4 := R4q
  clear R4q
  have R5q := Lib.hid (R5.out.next hb)
  clear R5
  have R5 := R5q
  clear R5q
  clear hb
  go_wp2
  go_ret
  exact ⟨rfl, HB.out⟩

set_option maxRecDepth 100000 in
set_option maxHeartbeats 8000000 in
theorem heldLater_join (H : HeldOk) (A : Option Addr) (n c : Nat) (l : Tb) (a b z : Int) (w : World) (hl : TAsk w A n c l) (hG : Glob w) (h0 : shortT l = true) (h1 : ¬ b < a) (h2 : ¬ z < b) (h3 : ¬ a = b) (h4 : ¬ b = z) :
    Calls Tryd.prog 3 #[.slice A n c, .int .i64 a, .int .i64 b, .int .i64 z] w fun e w' => e = .returned (.bool true) ∧ Below w.heap.size w w' := by
  have HB := Lib.hid (Below.refl w.heap.size w)
  have T0 := Lib.hid hl
  have HG := Lib.hid hG
  have E0 := Lib.hid h0
  have F0 := Lib.hid (short_few' h0)
  have d1 : decide (b < a) = false := decide_eq_false h1
  have d2 : decide (z < b) = false := decide_eq_false h2
  have FX0 : FewT (restT l a) := rest_few F0.out a
  have FY0 : FewT (restT l b) := rest_few F0.out b
  have hrr : restT (restT l a) b = restT l b := rest_rest (by omega)
  have hpa := busy_part (l := l) (a := a) (b := b) (c := z) (by omega)
  have FS0 := busy_len l a b
  have FT0 := busy_len l a z
  have FU0 := busy_len l b z
  have hbj : a < b → b < z → joinL (busyT l a b) (busyT l b z) = busyT l a z := fun x y => busy_join x y
  obtain ⟨x, ex⟩ : ∃ r, restT l a = r := ⟨_, rfl⟩
  obtain ⟨y, ey⟩ : ∃ r, restT l b = r := ⟨_, rfl⟩
  obtain ⟨s, es⟩ : ∃ r, busyT l a b = r := ⟨_, rfl⟩
  obtain ⟨t, et⟩ : ∃ r, busyT l a z = r := ⟨_, rfl⟩
  obtain ⟨u, eu⟩ : ∃ r, busyT l b z = r := ⟨_, rfl⟩
  rw [ex] at FX0 hrr
  rw [ey] at FY0 hrr
  rw [es] at FS0 hpa hbj
  rw [et] at FT0 hpa hbj
  rw [eu] at FU0 hbj
  have FX := Lib.hid FX0
  have FY := Lib.hid FY0
  have FS := Lib.hid FS0
  have FT := Lib.hid FT0
  have FU := Lib.hid FU0
  have EX := Lib.hid ex
  have EY := Lib.hid ey
  have ES := Lib.hid es
  have ET := Lib.hid et
  have EU := Lib.hid eu
  have RR := Lib.hid hrr
  have PA := Lib.hid hpa
  have BJ := Lib.hid hbj
  clear hl hG h0 FX0 FY0 FS0 FT0 FU0 ex ey es et eu hrr hpa hbj
  have d3 : (a == b) = false := by simpa using h3
  have d4 : (b == z) = false := by simpa using h4
  have BQ := Lib.hid (BJ.out (by omega) (by omega))
  clear h1 h2 h3 h4
  go_enter Tryd.func3, Tryd.ntmps3
  go_wp2_with fail
  refine (awake10_any H _).mono ?_
  rintro e w1 ⟨rfl, hb⟩
  have HBq := Lib.hid (HB.out.trans (hb.mono HB.out.size))
  clear HB
  have HB := HBq
  clear HBq
  have T0q := Lib.hid (T0.out.next hb)
  clear T0
  have T0 := T0q
  clear T0q
  have HGq := Lib.hid (HG.out.next hb)
  clear HG
  have HG := HGq
  clear HGq
  clear hb
  go_wp2_with fail
  refine (short_b T0.out E0.out).mono ?_
  rintro e w2 ⟨rfl, hb⟩
  have HBq := Lib.hid (HB.out.trans (hb.mono HB.out.size))
  clear HB
  have HB := HBq
  clear HBq
  have T0q := Lib.hid (T0.out.next hb)
  clear T0
  have T0 := T0q
  clear T0q
  have HGq := Lib.hid (HG.out.next hb)
  clear HG
  have HG := HGq
  clear HGq
  clear hb
  go_wp2_with fail
  refine (h10_over H T0.out F0.out EX.out rfl).mono ?_
  rintro e w3 ⟨⟨A1, c1, B1, d1, rfl, hr1, hs1, ⟨hn1, hc1⟩, ⟨hp1, hd1⟩⟩, hb⟩
  have HBq := Lib.hid (HB.out.trans (hb.mono HB.out.size))
  clear HB
  have HB := HBq
  clear HBq
  have T0q := Lib.hid (T0.out.next hb)
  clear T0
  have T0 := T0q
  clear T0q
  have HGq := Lib.hid (HG.out.next hb)
  clear HG
  have HG := HGq
  clear HGq
  clear hb
  have T1 := Lib.hid (ans_ask hr1 hn1 hc1 (by have := FX.out.1; unfold maxLen; omega))
  clear hr1 hs1 hn1 hc1 hp1 hd1
  go_wp2_with fail
  refine (h10_over H T1.out FX.out RR.out rfl).mono ?_
  rintro e w4 ⟨⟨A2, c2, B2, d2, rfl, hr2, hs2, ⟨hn2, hc2⟩, ⟨hp2, hd2⟩⟩, hb⟩
  have HBq := Lib.hid (HB.out.trans (hb.mono HB.out.size))
  clear HB
  have HB := HBq
  clear HBq
  have T0q := Lib.hid (T0.out.next hb)
  clear T0
  have T0 := T0q
  clear T0q
  have HGq := Lib.hid (HG.out.next hb)
  clear HG
  have HG := HGq
  clear HGq
  have T1q := Lib.hid (T1.out.next hb)
  clear T1
  have T1 := T1q
  clear T1q
  clear hb
  have T2 := Lib.hid (ans_ask hr2 hn2 hc2 (by have := FY.out.1; unfold maxLen; omega))
  clear hr2 hs2 hn2 hc2 hp2 hd2
  go_wp2_with fail
  refine (h10_over H T0.out F0.out EY.out rfl).mono ?_
  rintro e w5 ⟨⟨A3, c3, B3, d3, rfl, hr3, hs3, ⟨hn3, hc3⟩, ⟨hp3, hd3⟩⟩, hb⟩
  have HBq := Lib.hid (HB.out.trans (hb.mono HB.out.size))
  clear HB
  have HB := HBq
  clear HBq
  have T0q := Lib.hid (T0.out.next hb)
  clear T0
  have T0 := T0q
  clear T0q
  have HGq := Lib.hid (HG.out.next hb)
  clear HG
  have HG := HGq
  clear HGq
  have T1q := Lib.hid (T1.out.next hb)
  clear T1
  have T1 := T1q
  clear T1q
  have T2q := Lib.hid (T2.out.next hb)
  clear T2
  have T2 := T2q
  clear T2q
  clear hb
  have T3 := Lib.hid (ans_ask hr3 hn3 hc3 (by have := FY.out.1; unfold maxLen; omega))
  clear hr3 hs3 hn3 hc3 hp3 hd3
  go_wp2_with fail
  refine (sameT_b T2.out T3.out (sameT_self _)).mono ?_
  rintro e w6 ⟨rfl, hb⟩
  have HBq := Lib.hid (HB.out.trans (hb.mono HB.out.size))
  clear HB
  have HB := HBq
  clear HBq
  have T0q := Lib.hid (T0.out.next hb)
  clear T0
  have T0 := T0q
  clear T0q
  have HGq := Lib.hid (HG.out.next hb)
  clear HG
  have HG := HGq
  clear HGq
  have T1q := Lib.hid (T1.out.next hb)
  clear T1
  have T1 := T1q
  clear T1q
  have T2q := Lib.hid (T2.out.next hb)
  clear T2
  have T2 := T2q
  clear T2q
  have T3q := Lib.hid (T3.out.next hb)
  clear T3
  have T3 := T3q
  clear T3q
  clear hb
  go_wp2_with fail
  refine (h10_busy H T0.out F0.out ES.out).mono ?_
  rintro e w7 ⟨⟨A4, c4, rfl, hr4, hnil4, hc4⟩, hb⟩
  have HBq := Lib.hid (HB.out.trans (hb.mono HB.out.size))
  clear HB
  have HB := HBq
  clear HBq
  have T0q := Lib.hid (T0.out.next hb)
  clear T0
  have T0 := T0q
  clear T0q
  have HGq := Lib.hid (HG.out.next hb)
  clear HG
  have HG := HGq
  clear HGq
  have T1q := Lib.hid (T1.out.next hb)
  clear T1
  have T1 := T1q
  clear T1q
  have T2q := Lib.hid (T2.out.next hb)
  clear T2
  have T2 := T2q
  clear T2q
  have T3q := Lib.hid (T3.out.next hb)
  clear T3
  have T3 := T3q
  clear T3q
  clear hb
  have R4 := Lib.hid hr4
  clear hr4 hnil4 hc4
  go_wp2_with fail
  refine (h10_busy H T0.out F0.out ET.out).mono ?_
  rintro e w8 ⟨⟨A5, c5, rfl, hr5, hnil5, hc5⟩, hb⟩
  have HBq := Lib.hid (HB.out.trans (hb.mono HB.out.size))
  clear HB
  have HB := HBq
  clear HBq
  have T0q := Lib.hid (T0.out.next hb)
  clear T0
  have T0 := T0q
  clear T0q
  have HGq := Lib.hid (HG.out.next hb)
  clear HG
  have HG := HGq
  clear HGq
  have T1q := Lib.hid (T1.out.next hb)
  clear T1
  have T1 := T1q
  clear T1q
  have T2q := Lib.hid (T2.out.next hb)
  clear T2
  have T2 := T2q
  clear T2q
  have T3q := Lib.hid (T3.out.next hb)
  clear T3
  have T3 := T3q
  clear T3q
  have R4q := Lib.hid (R4.out.next hb)
  clear R4
  have R4 := R4q
  clear R4q
  clear hb
  have R5 := Lib.hid hr5
  clear hr5 hnil5 hc5
  go_wp2_with fail
  refine (s_part R4.out R5.out (by have := FS.out; unfold maxLen; omega) (by have := FT.out; unfold maxLen; omega) PA.out).mono ?_
  rintro e w9 ⟨rfl, hb⟩
  have HBq := Lib.hid (HB.out.trans (hb.mono HB.out.size))
  clear HB
  have HB := HBq
  clear HBq
  have T0q := Lib.hid (T0.out.next hb)
  clear T0
  have T0 := T0q
  clear T0q
  have HGq := Lib.hid (HG.out.next hb)
  clear HG
  have HG := HGq
  clear HGq
  have T1q := Lib.hid (T1.out.next hb)
  clear T1
  have T1 := T1q
  clear T1q
  have T2q := Lib.hid (T2.out.next hb)
  clear T2
  have T2 := T2q
  clear T2q
  have T3q := Lib.hid (T3.out.next hb)
  clear T3
  have T3 := T3q
  clear T3q
  have R4q := Lib.hid (R4.out.next hb)
  clear R4
  have R4 := R4q
  clear R4q
  have R5q := Lib.hid (R5.out.next hb)
  clear R5
  have R5 := R5q
  clear R5q
  clear hb
  go_wp2_with fail
  refine (h10_busy H T0.out F0.out ES.out).mono ?_
  rintro e w10 ⟨⟨A6, c6, rfl, hr6, hnil6, hc6⟩, hb⟩
  have HBq := Lib.hid (HB.out.trans (hb.mono HB.out.size))
  clear HB
  have HB := HBq
  clear HBq
  have T0q := Lib.hid (T0.out.next hb)
  clear T0
  have T0 := T0q
  clear T0q
  have HGq := Lib.hid (HG.out.next hb)
  clear HG
  have HG := HGq
  clear HGq
  have T1q := Lib.hid (T1.out.next hb)
  clear T1
  have T1 := T1q
  clear T1q
  have T2q := Lib.hid (T2.out.next hb)
  clear T2
  have T2 := T2q
  clear T2q
  have T3q := Lib.hid (T3.out.next hb)
  clear T3
  have T3 := T3q
  clear T3q
  have R4q := Lib.hid (R4.out.next hb)
  clear R4
  have R4 := R4q
  clear R4q
  have R5q := Lib.hid (R5.out.next hb)
  clear R5
  have R5 := R5q
  clear R5q
  clear hb
  have R6 := Lib.hid hr6
  clear hr6 hnil6 hc6
  go_wp2_with fail
  refine (h10_busy H T0.out F0.out EU.out).mono ?_
  rintro e w11 ⟨⟨A7, c7, rfl, hr7, hnil7, hc7⟩, hb⟩
  have HBq := Lib.hid (HB.out.trans (hb.mono HB.out.size))
  clear HB
  have HB := HBq
  clear HBq
  have T0q := Lib.hid (T0.out.next hb)
  clear T0
  have T0 := T0q
  clear T0q
  have HGq := Lib.hid (HG.out.next hb)
  clear HG
  have HG := HGq
  clear HGq
  have T1q := Lib.hid (T1.out.next hb)
  clear T1
  have T1 := T1q
  clear T1q
  have T2q := Lib.hid (T2.out.next hb)
  clear T2
  have T2 := T2q
  clear T2q
  have T3q := Lib.hid (T3.out.next hb)
  clear T3
  have T3 := T3q
  clear T3q
  have R4q := Lib.hid (R4.out.next hb)
  clear R4
  have R4 := R4q
  clear R4q
  have R5q := Lib.hid (R5.out.next hb)
  clear R5
  have R5 := R5q
  clear R5q
  have R6q := Lib.hid (R6.out.next hb)
  clear R6
  have R6 := R6q
  clear R6q
  clear hb
  have R7 := Lib.hid hr7
  clear hr7 hnil7 hc7
  go_wp2_with fail
  refine (calls_ipost (s_join R6.out R7.out (by have := FS.out; unfold maxLen; omega) (by have := FU.out; unfold maxLen; omega) HG.out) BQ.out).mono ?_
  rintro e w12 ⟨⟨A8, c8, rfl, hr8, hnil8, hc8⟩, hb⟩
  have HBq := Lib.hid (HB.out.trans (hb.mono HB.out.size))
  clear HB
  have HB := HBq
  clear HBq
  have T0q := Lib.hid (T0.out.next hb)
  clear T0
  have T0 := T0q
  clear T0q
  have HGq := Lib.hid (HG.out.next hb)
  clear HG
  have HG := HGq
  clear HGq
  have T1q := Lib.hid (T1.out.next hb)
  clear T1
  have T1 := T1q
  clear T1q
  have T2q := Lib.hid (T2.out.next hb)
  clear T2
  have T2 := T2q
  clear T2q
  have T3q := Lib.hid (T3.out.next hb)
  clear T3
  have T3 := T3q
  clear T3q
  have R4q := Lib.hid (R4.out.next hb)
  clear R4
  have R4 := R4q
  clear R4q
  have R5q := Lib.hid (R5.out.next hb)
  clear R5
  have R5 := R5q
  clear R5q
  have R6q := Lib.hid (R6.out.next hb)
  clear R6
  have R6 := R6q
  clear R6q
  have R7q := Lib.hid (R7.out.next hb)
  clear R7
  have R7 := R7q
  clear R7q
  clear hb
  have R8 := Lib.hid hr8
  clear hr8 hnil8 hc8
  go_wp2_with fail
  refine (h10_busy H T0.out F0.out ET.out).mono ?_
  rintro e w13 ⟨⟨A9, c9, rfl, hr9, hnil9, hc9⟩, hb⟩
  have HBq := Lib.hid (HB.out.trans (hb.mono HB.out.size))
  clear HB
  have HB := HBq
  clear HBq
  have T0q := Lib.hid (T0.out.next hb)
  clear T0
  have T0 := T0q
  clear T0q
  have HGq := Lib.hid (HG.out.next hb)
  clear HG
  have HG := HGq
  clear HGq
  have T1q := Lib.hid (T1.out.next hb)
  clear T1
  have T1 := T1q
  clear T1q
  have T2q := Lib.hid (T2.out.next hb)
  clear T2
  have T2 := T2q
  clear T2q
  have T3q := Lib.hid (T3.out.next hb)
  clear T3
  have T3 := T3q
  clear T3q
  have R4q := Lib.hid (R4.out.next hb)
  clear R4
  have R4 := R4q
  clear R4q
  have R5q := Lib.hid (R5.out.next hb)
  clear R5
  have R5 := R5q
  clear R5q
  have R6q := Lib.hid (R6.out.next hb)
  clear R6
  have R6 := R6q
  clear R6q
  have R7q := Lib.hid (R7.out.next hb)
  clear R7
  have R7 := R7q
  clear R7q
  have R8q := Lib.hid (R8.out.next hb)
  clear R8
  have R8 := R8q
  clear R8q
  clear hb
  have R9 := Lib.hid hr9
  clear hr9 hnil9 hc9
  go_wp2_with fail
  refine (ri_same R8.out R9.out (by have := FT.out; unfold maxLen; omega) (by have := FT.out; unfold maxLen; omega) (same_self _)).mono ?_
  rintro e w14 ⟨rfl, hb⟩
  have HBq := Lib.hid (HB.out.trans (hb.mono HB.out.size))
  clear HB
  have HB := HBq
  clear HBq
  have T0q := Lib.hid (T0.out.next hb)
  clear T0
  have T0 := T0q
  clear T0q
  have HGq := Lib.hid (HG.out.next hb)
  clear HG
  have HG := HGq
  clear HGq
  have T1q := Lib.hid (T1.out.next hb)
  clear T1
  have T1 := T1q
  clear T1q
  have T2q := Lib.hid (T2.out.next hb)
  clear T2
  have T2 := T2q
  clear T2q
  have T3q := Lib.hid (T3.out.next hb)
  clear T3
  have T3 := T3q
  clear T3q
  have R4q := Lib.hid (R4.out.next hb)
  clear R4
  have R4 := R4q
  clear R4q
  have R5q := Lib.hid (R5.out.next hb)
  clear R5
  have R5 := R5q
  clear R5q
  have R6q := Lib.hid (R6.out.next hb)
  clear R6
  have R6 := R6q
  clear R6q
  have R7q := Lib.hid (R7.out.next hb)
  clear R7
  have R7 := R7q
  clear R7q
  have R8q := Lib.hid (R8.out.next hb)
  clear R8
  have R8 := R8q
  clear R8q
  have R9q := Lib.hid (R9.out.next hb)
  clear R9
  have R9 := R9q
  clear R9q
  clear hb
  go_wp2
  go_ret
  exact ⟨rfl, HB.out⟩


theorem heldLater_walk (H : HeldOk) (A : Option Addr) (n c : Nat) (l : Tb) (a b z : Int) (w : World) (hl : TAsk w A n c l) (hG : Glob w) : Calls Tryd.prog 3 #[.slice A n c, .int .i64 a, .int .i64 b, .int .i64 z] w fun e w' => e = .returned (.bool true) ∧ Below w.heap.size w w' := by
  cases h0 : shortT l with
  | false => exact heldLater_l0 H A n c l a b z w hl hG h0
  | true =>
    by_cases h1 : b < a
    · exact heldLater_l1 H A n c l a b z w hl hG h0 h1
    · by_cases h2 : z < b
      · exact heldLater_l2 H A n c l a b z w hl hG h0 h1 h2
      · by_cases h3 : a = b
        · exact heldLater_e1 H A n c l a b z w hl hG h0 h1 h2 h3
        · by_cases h4 : b = z
          · exact heldLater_e2 H A n c l a b z w hl hG h0 h1 h2 h3 h4
          · exact heldLater_join H A n c l a b z w hl hG h0 h1 h2 h3 h4

end Go.Proofs.YtbiofikijehlcaaDoor

namespace Go.Proofs.YtbiofikijehlcaaDoor
open Go.ChangeShapes Go.WideShapes Go.ChangeAt Go.RowKit

theorem heldLater_glob (W : World) (h : laidMetH Tryd.prog Rows.heldLaterRow.laid W) : Glob W := glob_of 0 (MakeChecks.laidMetH_plain _ _ _ (by kernel_rfl)) rfl h

set_option maxRecDepth 100000 in
theorem heldLater_lifted (H : HeldOk) (os : Os) (started : os.Started) (H' : Type) (enc : TypeId × Value → H') :
    ReturnsInHanded {} Tryd.checked os 3 .any (fun w args => (Rows.heldLaterSpec.pre enc Tryd.prog Tryd.f3 Rows.heldLaterRow.domain false w args ∧ laidMetH Tryd.prog Rows.heldLaterRow.laid w) ∧ sizedMet enc Tryd.prog Tryd.f3 (OpenSpec.ofChange Rows.heldLaterSpec) false w args)
      (Rows.heldLaterSpec.post enc Tryd.prog Tryd.f3 false true false false) := by
  refine lifted_tied heldLater_glob started (by kernel_rfl) Tryd.func3 (by kernel_rfl) rfl
    (fun t ht => by
      have hp : Tryd.f3.params = #[22, 2, 2, 2] := Tryd.params3
      rw [hp] at ht
      have hall : ([22, 2, 2, 2].all fun u => Tryd.prog.readableRec u && decide (u < Tryd.prog.types.size)) = true := by kernel_rfl
      have := List.all_eq_true.1 hall t (by simpa using ht)
      simpa using this)
    (ChangeSpec.witness_shaped (enc := enc) (C := Tryd.checked) (os := os) (X := fun w _ => laidMetH Tryd.prog Rows.heldLaterRow.laid w) false (World.laidAll Tryd.prog os Rows.heldLaterRow.laid) #[.slice none 0 0, .int .i64 0, .int .i64 0, .int .i64 0] 8 (World.laidAll_os _ _ _)
      (World.shaped_of_ZipB (by kernel_rfl) (by kernel_rfl)) (by kernel_rfl) (by kernel_rfl) (by kernel_rfl)
      (by rw [MakeChecks.laidMetH_plain _ _ _ (by kernel_rfl)]; exact laidMet_laidAll _ (by kernel_rfl) (by kernel_rfl))) ?_
  intro W base args ds p hval hA hG
  rw [Tryd.params3] at hA hval
  obtain ⟨v0, r'0, d0, e'0, p0, q'0, ha, rfl, rfl, h0, hA⟩ := trodAll_cons hA
  obtain ⟨v1, r'1, d1, e'1, p1, q'1, rfl, rfl, rfl, h1, hA⟩ := trodAll_cons hA
  obtain ⟨v2, r'2, d2, e'2, p2, q'2, rfl, rfl, rfl, h2, hA⟩ := trodAll_cons hA
  obtain ⟨v3, r'3, d3, e'3, p3, q'3, rfl, rfl, rfl, h3, hA⟩ := trodAll_cons hA
  obtain ⟨rfl, rfl, rfl⟩ := trodAll_nil hA
  obtain rfl : args = #[v0, v1, v2, v3] := by cases args; simp_all
  clear ha
  obtain ⟨A0, n0, c0, x0, rfl, b0⟩ := open_RT (hval 0 22 v0 rfl rfl) h0
  obtain ⟨i1, rfl, rfl, rfl, m1⟩ := open_int Tryd.underlying2 (hval 1 2 v1 rfl rfl) h1
  obtain ⟨i2, rfl, rfl, rfl, m2⟩ := open_int Tryd.underlying2 (hval 2 2 v2 rfl rfl) h2
  obtain ⟨i3, rfl, rfl, rfl, m3⟩ := open_int Tryd.underlying2 (hval 3 2 v3 rfl rfl) h3
  exact ⟨rfl, heldLater_walk H A0 n0 c0 x0 i1 i2 i3 W b0 hG⟩

theorem heldLater_holds (H : HeldOk) : Rows.HeldLaterSaid :=
  OpenClaim.holds_of_wide 3 Tryd.f3 rfl rfl rfl rfl rfl rfl rfl ⟨rfl, rfl, rfl, rfl, rfl⟩ rfl rfl rfl rfl rfl (by kernel_rfl) Tryd.func3 (by kernel_rfl)
    (of_decide_eq_true (by kernel_rfl)) (by unfold Func.isWrapper; first | (rw [if_pos (by decide +kernel)]; kernel_rfl) | (rw [if_neg (by decide +kernel)]; exact ⟨rfl, rfl⟩))
    (fun os started H' enc _ => heldLater_lifted H os started H' enc)

theorem heldLater_card (H : HeldOk) : Rows.HeldLaterCardSaid :=
  Claim7.holds_tied_plain_at .later [] _ true (true, Rows.heldLaterCard.stood.harness.2) false (heldLater_holds H) (fun _ h => by cases h) (by kernel_rfl) (fun _ h => by cases h) heldLater_row_tie rfl ⟨rfl, rfl⟩ (by kernel_rfl) rfl
    (fun f fn hf hfn => by
      obtain rfl : f = 3 := Option.some.inj ((show Tryd.prog.funcNamed "bailiwick/bailiwicklaw10.HeldLater" = some 3 by kernel_rfl).symm.trans hf) |>.symm
      obtain rfl : fn = Tryd.f3 := (Option.some.inj (Tryd.func3.symm.trans hfn)).symm
      exact ⟨by kernel_rfl, fun j t ht => by
        rw [Tryd.params3] at ht
        have hm : t ∈ [22, 2, 2, 2] := by simpa using Array.mem_of_getElem? ht
        have hall : ([22, 2, 2, 2].all fun u => !Tryd.prog.wantsStandIn u) = true := by kernel_rfl
        exact (show Tryd.prog.wantsStandIn t = false by simpa using List.all_eq_true.1 hall t hm)⟩)
    (by kernel_rfl)

end Go.Proofs.YtbiofikijehlcaaDoor
