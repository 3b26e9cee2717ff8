/- The program's Cut of layer 10. Written by gen/gen_heldpcut.py. The program's functions of layer 10 keep their contracts. -/
import Derived.Test.YtbiofikijehlcaaMg10
import Derived.Test.YtbiofikijehlcaaMg04
import Derived.Test.YtbiofikijehlcaaMg09
import Derived.Test.YtbiofikijehlcaaMg11
namespace Go.Proofs.Ytbiofikijehlcaa
open Go.RowKit

/-- a holding of a table of one's own is cut short -/
theorem onh_cut {W wr : World} {g n c K : Nat} {l : Tb} {z : Int} {x : Hd} (h : ONH W (.slice (some ⟨g, 0, none⟩) n c) l wr) (hx : l[K]? = some x) (hz : x.frm < z ∧ z ≤ x.to) :
    ONH W (.slice (some ⟨g, 0, none⟩) n c) (l.set K ⟨x.id, x.things, x.frm, z⟩) (wr.setCell ⟨g, K * 4 + 3, none⟩ (.int .i64 z)) := by
  obtain ⟨fl, h1, h2, h3⟩ := h
  have hn : n = l.length := by
    rcases h1.2 with ⟨e, _⟩ | ⟨g', cap', cur, e, _⟩
    · cases e
    · injection e
  have hgb : W.heap.size ≤ g := (h1.lt g rfl).1
  have hK := (List.getElem?_eq_some_iff.1 hx).1
  have s0 : (wr.setCell ⟨g, K * 4 + 3, none⟩ (.int .i64 z)).ownsRow W.heap.size 36 4 (.slice (some ⟨g, 0, none⟩) n c) l.length (fl.set (K * 4 + 3) (.int .i64 z)) := by
    rw [hn] at h1 ⊢
    exact (h1.stored (K * 4 + 3) (.int .i64 z)).1
  have hk : ∀ b, b ≠ g → (wr.setCell ⟨g, K * 4 + 3, none⟩ (.int .i64 z)).heap[b]? = wr.heap[b]? := fun b hb => Below.heap_setCell _ _ _ _ hb
  have hsz : (wr.setCell ⟨g, K * 4 + 3, none⟩ (.int .i64 z)).heap.size = wr.heap.size := by simp [World.setCell]
  have hfl := h1.1
  refine ⟨_, by rw [List.length_set]; exact s0, h2.setCell (p := ⟨g, _, none⟩) hgb _, fun j y hy => ?_⟩
  have hmono : ∀ b, (b < wr.heap.size ∧ (Value.slice (some ⟨g, 0, none⟩) n c).ownBlock ≠ some b) → b ≠ g := fun b hb e => hb.2 (by rw [e]; rfl)
  by_cases hj : j = K
  · subst hj
    rw [List.getElem?_set_self hK] at hy
    have hy' : (⟨x.id, x.things, x.frm, z⟩ : Hd) = y := by simpa using hy
    subst hy'
    obtain ⟨A', m', c', hv, hr, e1, e2, e3, i1, i2, i3, i4⟩ := h3 j x hx
    have e : ((fl.set (j * 4 + 3) (.int .i64 z)).drop (j * 4)).take 4 = [.int .i64 x.id, .slice A' m' c', .int .i64 x.frm, .int .i64 z] := by
      apply List.ext_getElem?
      intro k
      have hk0 : ∀ i, i < 3 → ((fl.set (j * 4 + 3) (.int .i64 z)).drop (j * 4))[i]? = ((fl.drop (j * 4)).take 4)[i]? := fun i hi => by
        rw [List.getElem?_drop, List.getElem?_set_ne (by omega), List.getElem?_take_of_lt (by omega), List.getElem?_drop]
      match k with
      | 0 => rw [List.getElem?_take_of_lt (by omega), hk0 0 (by omega), hv]; rfl
      | 1 => rw [List.getElem?_take_of_lt (by omega), hk0 1 (by omega), hv]; rfl
      | 2 => rw [List.getElem?_take_of_lt (by omega), hk0 2 (by omega), hv]; rfl
      | 3 =>
        rw [List.getElem?_take_of_lt (by omega), List.getElem?_drop, List.getElem?_set_self (by omega)]
        rfl
      | k + 4 => rw [List.getElem?_eq_none (by rw [List.length_take]; omega), List.getElem?_eq_none (by simp)]
    rw [e]
    refine ⟨A', m', c', rfl, hr.keep ei_steady (fun b hb => hk b (hmono b hb)) (fun b hb => ⟨by rw [hsz]; exact hb.1, hb.2⟩), e1, e2, e3, i1, i2, ?_, i4⟩
    show I64 z
    unfold I64 at *
    omega
  · rw [List.getElem?_set_ne (fun e => hj e.symm)] at hy
    have e : ((fl.set (K * 4 + 3) (.int .i64 z)).drop (j * 4)).take 4 = (fl.drop (j * 4)).take 4 := by
      apply List.ext_getElem?
      intro k
      rw [List.getElem?_take, List.getElem?_take]
      split
      · rw [List.getElem?_drop, List.getElem?_drop, List.getElem?_set_ne (by omega)]
      · rfl
    rw [e]
    exact eh_steady.keep (h3 j y hy) (fun b hb => hk b (hmono b hb)) (fun b hb => ⟨by rw [hsz]; exact hb.1, hb.2⟩)

set_option maxRecDepth 100000 in
set_option maxHeartbeats 8000000 in
theorem heldCut_1 (A : Option Addr) (n c : Nat) (l : Tb) (id z : Int) (w : World) (hl : TAsk w A n c l) (hf : FewT l) (h1 : rightT l = false) :
    Calls Try.prog 27 #[.slice A n c, .int .i64 id, .int .i64 z] w (CPost 1 w) := by
  have HT := Lib.hid hl
  have HB := Lib.hid (Below.refl w.heap.size w)
  have HF := Lib.hid hf
  have HLN := Lib.hid hl.reads.len
  have hn100 : n ≤ 100 := by rw [← hl.reads.len]; exact hf.1
  have R1 := Lib.hid h1
  clear h1
  clear hl hf
  go_enter Try.func27, Try.ntmps27
  go_wp2_with fail
  refine (heldRight_b HT.out.reads HT.out.nil HF.out R1.out).mono ?_
  rintro e w1 ⟨rfl, hb⟩
  have HBq := Lib.hid (HB.out.trans (hb.mono HB.out.size))
  clear HB
  have HB := HBq
  clear HBq
  have HTq := Lib.hid (HT.out.next hb)
  clear HT
  have HT := HTq
  clear HTq
  clear hb
  go_wp2_with fail
  refine (heldSame_any A n c l _ HT.out.reads HT.out.nil HF.out).mono ?_
  rintro e w2 ⟨v, rfl, hon⟩
  obtain ⟨A1, c1, rfl, _, _⟩ := hon.form
  have HB2 := Lib.hid (HB.out.trans (hon.below.mono HB.out.size))
  clear hon
  go_wp2
  go_ret2
  exact ⟨⟨_, _, _, rfl⟩, HB2.out⟩

set_option maxRecDepth 100000 in
set_option maxHeartbeats 8000000 in
theorem heldCut_2 (A : Option Addr) (n c : Nat) (l : Tb) (id z : Int) (w : World) (hl : TAsk w A n c l) (hf : FewT l) (h1 : rightT l = true) (h2 : hasT l id = false) :
    Calls Try.prog 27 #[.slice A n c, .int .i64 id, .int .i64 z] w (CPost 6 w) := by
  have HT := Lib.hid hl
  have HB := Lib.hid (Below.refl w.heap.size w)
  have HF := Lib.hid hf
  have HLN := Lib.hid hl.reads.len
  have hn100 : n ≤ 100 := by rw [← hl.reads.len]; exact hf.1
  have R1 := Lib.hid h1
  have HHAS := Lib.hid h2
  have HIDS := Lib.hid (rightT_is.1 h1).ids
  clear h1 h2
  clear hl hf
  go_enter Try.func27, Try.ntmps27
  go_wp2_with fail
  refine (heldRight_b HT.out.reads HT.out.nil HF.out R1.out).mono ?_
  rintro e w1 ⟨rfl, hb⟩
  have HBq := Lib.hid (HB.out.trans (hb.mono HB.out.size))
  clear HB
  have HB := HBq
  clear HBq
  have HTq := Lib.hid (HT.out.next hb)
  clear HT
  have HT := HTq
  clear HTq
  clear hb
  go_wp2_with fail
  refine (find_any A n c l id _ HT.out.reads (by omega) HIDS.out).mono ?_
  rintro e w2 ⟨⟨K, rfl, hK⟩, hb⟩
  have HK := Lib.hid hK
  have HHE : Hid (hereB l id K = false) := Lib.hid (by rw [here_has HIDS.out hK]; exact HHAS.out)
  rw [HHE.out]
  clear hK
  have HBq := Lib.hid (HB.out.trans (hb.mono HB.out.size))
  clear HB
  have HB := HBq
  clear HBq
  have HTq := Lib.hid (HT.out.next hb)
  clear HT
  have HT := HTq
  clear HTq
  clear hb
  go_wp2
  go_ret2
  exact ⟨⟨_, _, _, rfl⟩, HB.out⟩

set_option maxRecDepth 100000 in
set_option maxHeartbeats 8000000 in
theorem heldCut_3 (A : Option Addr) (n c : Nat) (l : Tb) (id z : Int) (w : World) (hl : TAsk w A n c l) (hf : FewT l) (h1 : rightT l = true) (h2 : hasT l id = true) (h3 : z ≤ (getT l id).frm) :
    Calls Try.prog 27 #[.slice A n c, .int .i64 id, .int .i64 z] w (CPost 1 w) := by
  have HT := Lib.hid hl
  have HB := Lib.hid (Below.refl w.heap.size w)
  have HF := Lib.hid hf
  have HLN := Lib.hid hl.reads.len
  have hn100 : n ≤ 100 := by rw [← hl.reads.len]; exact hf.1
  have R1 := Lib.hid h1
  have HHAS := Lib.hid h2
  have HIDS := Lib.hid (rightT_is.1 h1).ids
  obtain ⟨x, hgx⟩ : ∃ x, getT l id = x := ⟨_, rfl⟩
  have HGX := Lib.hid hgx
  rw [hgx] at h3
  have d1 : decide (z ≤ x.frm) = true := decide_eq_true h3
  clear h1 h2 h3 hgx
  clear hl hf
  go_enter Try.func27, Try.ntmps27
  go_wp2_with fail
  refine (heldRight_b HT.out.reads HT.out.nil HF.out R1.out).mono ?_
  rintro e w1 ⟨rfl, hb⟩
  have HBq := Lib.hid (HB.out.trans (hb.mono HB.out.size))
  clear HB
  have HB := HBq
  clear HBq
  have HTq := Lib.hid (HT.out.next hb)
  clear HT
  have HT := HTq
  clear HTq
  clear hb
  go_wp2_with fail
  refine (find_any A n c l id _ HT.out.reads (by omega) HIDS.out).mono ?_
  rintro e w2 ⟨⟨K, rfl, hK⟩, hb⟩
  have HK := Lib.hid hK
  have HHE : Hid (hereB l id K = true) := Lib.hid (by rw [here_has HIDS.out hK]; exact HHAS.out)
  rw [HHE.out]
  clear hK
  have HBq := Lib.hid (HB.out.trans (hb.mono HB.out.size))
  clear HB
  have HB := HBq
  clear HBq
  have HTq := Lib.hid (HT.out.next hb)
  clear HT
  have HT := HTq
  clear HTq
  clear hb
  have hKl := (here_facts HHE.out).1
  have hga := get_at R1.out HHE.out
  rw [HGX.out] at hga
  have hKn : K < n := by rw [← HLN.out]; exact hKl
  have HKN := Lib.hid hKn
  obtain ⟨b, off, A2, m2, c2, rfl, hbl, c0, c1, c2', c3, hx⟩ := HT.out.reads.one hKn
  rw [← hga] at c0 c2' c3
  have HGA := Lib.hid hga
  have HKL := Lib.hid hKl
  clear hx hga hKl
  go_wp2
  go_ret2
  exact ⟨⟨_, _, _, rfl⟩, HB.out⟩

set_option maxRecDepth 100000 in
set_option maxHeartbeats 8000000 in
theorem heldCut_4 (A : Option Addr) (n c : Nat) (l : Tb) (id z : Int) (w : World) (hl : TAsk w A n c l) (hf : FewT l) (h1 : rightT l = true) (h2 : hasT l id = true) (h3 : ¬ z ≤ (getT l id).frm) (h4 : (getT l id).to < z) :
    Calls Try.prog 27 #[.slice A n c, .int .i64 id, .int .i64 z] w (CPost 1 w) := by
  have HT := Lib.hid hl
  have HB := Lib.hid (Below.refl w.heap.size w)
  have HF := Lib.hid hf
  have HLN := Lib.hid hl.reads.len
  have hn100 : n ≤ 100 := by rw [← hl.reads.len]; exact hf.1
  have R1 := Lib.hid h1
  have HHAS := Lib.hid h2
  have HIDS := Lib.hid (rightT_is.1 h1).ids
  obtain ⟨x, hgx⟩ : ∃ x, getT l id = x := ⟨_, rfl⟩
  have HGX := Lib.hid hgx
  rw [hgx] at h3 h4
  have d1 : decide (z ≤ x.frm) = false := decide_eq_false h3
  have d2 : decide (x.to < z) = true := decide_eq_true h4
  clear h1 h2 h3 h4 hgx
  clear hl hf
  go_enter Try.func27, Try.ntmps27
  go_wp2_with fail
  refine (heldRight_b HT.out.reads HT.out.nil HF.out R1.out).mono ?_
  rintro e w1 ⟨rfl, hb⟩
  have HBq := Lib.hid (HB.out.trans (hb.mono HB.out.size))
  clear HB
  have HB := HBq
  clear HBq
  have HTq := Lib.hid (HT.out.next hb)
  clear HT
  have HT := HTq
  clear HTq
  clear hb
  go_wp2_with fail
  refine (find_any A n c l id _ HT.out.reads (by omega) HIDS.out).mono ?_
  rintro e w2 ⟨⟨K, rfl, hK⟩, hb⟩
  have HK := Lib.hid hK
  have HHE : Hid (hereB l id K = true) := Lib.hid (by rw [here_has HIDS.out hK]; exact HHAS.out)
  rw [HHE.out]
  clear hK
  have HBq := Lib.hid (HB.out.trans (hb.mono HB.out.size))
  clear HB
  have HB := HBq
  clear HBq
  have HTq := Lib.hid (HT.out.next hb)
  clear HT
  have HT := HTq
  clear HTq
  clear hb
  have hKl := (here_facts HHE.out).1
  have hga := get_at R1.out HHE.out
  rw [HGX.out] at hga
  have hKn : K < n := by rw [← HLN.out]; exact hKl
  have HKN := Lib.hid hKn
  obtain ⟨b, off, A2, m2, c2, rfl, hbl, c0, c1, c2', c3, hx⟩ := HT.out.reads.one hKn
  rw [← hga] at c0 c2' c3
  have HGA := Lib.hid hga
  have HKL := Lib.hid hKl
  clear hx hga hKl
  go_wp2
  go_ret2
  exact ⟨⟨_, _, _, rfl⟩, HB.out⟩

set_option maxRecDepth 100000 in
set_option maxHeartbeats 8000000 in
theorem heldCut_5 (A : Option Addr) (n c : Nat) (l : Tb) (id z : Int) (w : World) (hl : TAsk w A n c l) (hf : FewT l) (h1 : rightT l = true) (h2 : hasT l id = true) (h3 : ¬ z ≤ (getT l id).frm) (h4 : ¬ (getT l id).to < z) :
    Calls Try.prog 27 #[.slice A n c, .int .i64 id, .int .i64 z] w (TEPost (l.map (shortH id z)) 0 w) := by
  have HT := Lib.hid hl
  have HB := Lib.hid (Below.refl w.heap.size w)
  have HF := Lib.hid hf
  have HLN := Lib.hid hl.reads.len
  have hn100 : n ≤ 100 := by rw [← hl.reads.len]; exact hf.1
  have R1 := Lib.hid h1
  have HHAS := Lib.hid h2
  have HIDS := Lib.hid (rightT_is.1 h1).ids
  obtain ⟨x, hgx⟩ : ∃ x, getT l id = x := ⟨_, rfl⟩
  have HGX := Lib.hid hgx
  obtain ⟨cl, hcl⟩ : ∃ cl, l.map (shortH id z) = cl := ⟨_, rfl⟩
  have HCL := Lib.hid hcl
  rw [hgx] at h3 h4
  have d1 : decide (z ≤ x.frm) = false := decide_eq_false h3
  have d2 : decide (x.to < z) = false := decide_eq_false h4
  have HZ : Hid (x.frm < z ∧ z ≤ x.to) := Lib.hid ⟨by omega, by omega⟩
  rw [hcl]
  clear h1 h2 h3 h4 hgx hcl
  clear hl hf
  go_enter Try.func27, Try.ntmps27
  go_wp2_with fail
  refine (heldRight_b HT.out.reads HT.out.nil HF.out R1.out).mono ?_
  rintro e w1 ⟨rfl, hb⟩
  have HBq := Lib.hid (HB.out.trans (hb.mono HB.out.size))
  clear HB
  have HB := HBq
  clear HBq
  have HTq := Lib.hid (HT.out.next hb)
  clear HT
  have HT := HTq
  clear HTq
  clear hb
  go_wp2_with fail
  refine (find_any A n c l id _ HT.out.reads (by omega) HIDS.out).mono ?_
  rintro e w2 ⟨⟨K, rfl, hK⟩, hb⟩
  have HK := Lib.hid hK
  have HHE : Hid (hereB l id K = true) := Lib.hid (by rw [here_has HIDS.out hK]; exact HHAS.out)
  rw [HHE.out]
  clear hK
  have HBq := Lib.hid (HB.out.trans (hb.mono HB.out.size))
  clear HB
  have HB := HBq
  clear HBq
  have HTq := Lib.hid (HT.out.next hb)
  clear HT
  have HT := HTq
  clear HTq
  clear hb
  have hKl := (here_facts HHE.out).1
  have hga := get_at R1.out HHE.out
  rw [HGX.out] at hga
  have hKn : K < n := by rw [← HLN.out]; exact hKl
  have HKN := Lib.hid hKn
  obtain ⟨b, off, A2, m2, c2, rfl, hbl, c0, c1, c2', c3, hx⟩ := HT.out.reads.one hKn
  rw [← hga] at c0 c2' c3
  have HGA := Lib.hid hga
  have HKL := Lib.hid hKl
  clear hx hga hKl
  have HXK : Hid (l[K]? = some x) := Lib.hid (by rw [HGA.out, getD_at HKL.out]; exact List.getElem?_eq_getElem HKL.out)
  have HCUT : Hid (l.set K ⟨x.id, x.things, x.frm, z⟩ = cl) := Lib.hid (by rw [← HCL.out, cut_at HIDS.out HK.out HHE.out, ← HGA.out])
  go_wp2_with fail
  refine (heldSame_any _ n c l _ HT.out.reads HT.out.nil HF.out).mono ?_
  rintro e w5 ⟨v, rfl, hon⟩
  obtain ⟨A1, c1', rfl, hz1, hz2⟩ := hon.form
  rw [HLN.out] at hon ⊢
  obtain ⟨g, rfl, _, _⟩ := hon.head (show 0 < n by have := HKN.out; omega)
  have HON : Hid (ONH _ _ _ _) := Lib.hid (onh_cut hon HXK.out HZ.out)
  rw [HCUT.out] at HON
  have HBF := Lib.hid (HB.out.trans ((ON.below HON.out).mono HB.out.size))
  obtain ⟨⟨u3, q3⟩, z3⟩ := hon.block (i := K * 4 + 3) (by have := HKN.out; omega)
  clear hon hz1 hz2 c0 c1 c2' c3
  go_wp2
  go_ret2
  exact onh_post HON.out HBF.out

theorem heldCut_ok (A : Option Addr) (n c : Nat) (l : Tb) (id z : Int) (w : World) (hl : TAsk w A n c l) (hf : FewT l) (h : cutE l id z = 0) : Calls Try.prog 27 #[.slice A n c, .int .i64 id, .int .i64 z] w (TEPost (cutT l id z) 0 w) := by
  have e : cutT l id z = l.map (shortH id z) := by unfold cutT; rw [if_pos h]; rfl
  rw [e]
  unfold cutE at h
  cases h1 : rightT l with
  | false => rw [h1, if_pos rfl] at h; cases h
  | true =>
    cases h2 : hasT l id with
    | false => rw [h1, h2, if_neg (by simp), if_pos rfl] at h; cases h
    | true =>
      rw [h1, h2, if_neg (by simp), if_neg (by simp)] at h
      by_cases h3 : z ≤ (getT l id).frm
      · rw [if_pos (.inl h3)] at h; cases h
      · by_cases h4 : (getT l id).to < z
        · rw [if_pos (.inr h4)] at h; cases h
        · exact heldCut_5 A n c l id z w hl hf h1 h2 h3 h4
theorem heldCut_no (A : Option Addr) (n c : Nat) (l : Tb) (id z : Int) (w : World) (hl : TAsk w A n c l) (hf : FewT l) (h : cutE l id z ≠ 0) : Calls Try.prog 27 #[.slice A n c, .int .i64 id, .int .i64 z] w (CPost (cutE l id z) w) := by
  unfold cutE at h ⊢
  cases h1 : rightT l with
  | false =>
    rw [if_pos rfl]
    exact heldCut_1 A n c l id z w hl hf h1
  | true =>
    rw [if_neg (by simp)]
    cases h2 : hasT l id with
    | false =>
      rw [if_pos rfl]
      exact heldCut_2 A n c l id z w hl hf h1 h2
    | true =>
      rw [h1, h2, if_neg (by simp), if_neg (by simp)] at h
      rw [if_neg (by simp)]
      by_cases h3 : z ≤ (getT l id).frm
      · rw [if_pos (.inl h3)]
        exact heldCut_3 A n c l id z w hl hf h1 h2 h3
      · by_cases h4 : (getT l id).to < z
        · rw [if_pos (.inr h4)]
          exact heldCut_4 A n c l id z w hl hf h1 h2 h3 h4
        · rw [if_neg (by rintro (h' | h') <;> contradiction)] at h
          exact absurd rfl h

end Go.Proofs.Ytbiofikijehlcaa

namespace Go.Proofs.Ytbiofikijehlcaa
open Go.RowKit

theorem heldOk_is : HeldOk where
  right A n c l w hl hf := heldRight_any A n c l w hl.reads hl.nil hf
  over A n c l z w hl hf := heldOver_any A n c l z w hl hf
  busy A n c l a b w hl hf := heldBusy_any A n c l a b w hl hf
  ends A n c l z w hl hf := heldEnds_any A n c l z w hl hf
  get A n c l id w hl hf := heldGet_any A n c l id w hl hf
  add A n c l A2 m c2 h w hl hf hh hm := heldAdd_any A n c l A2 m c2 h w hl hf hh hm
  drop A n c l id w hl hf h := heldDrop_any A n c l id w hl hf h
  cut A n c l id z w hl hf h := heldCut_ok A n c l id z w hl hf h
  cutNo A n c l id z w hl hf h := heldCut_no A n c l id z w hl hf h

end Go.Proofs.Ytbiofikijehlcaa
