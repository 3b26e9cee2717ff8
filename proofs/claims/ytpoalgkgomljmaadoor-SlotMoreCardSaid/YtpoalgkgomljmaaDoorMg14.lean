/- A region that draws its order, shown operation by operation: what holds of those that have come up, whatever the order, is kept by each that may come up next. No program's text is walked here. The program's Under and Above of layer 5 (graph): what they answer of any list of things. What the program's functions of layer 5 (graph) answer: the list of contracts that the statements' walks lean on, held. The program's functions of layer 7 (spec): between, Right, what they answer of any spec. Written by gen/gen_specp.py. -/
import Derived.Orders
import Derived.RegionTactic
import Derived.Test.YtpoalgkgomljmaaDoorMg01
import Derived.Test.YtpoalgkgomljmaaDoorMg12
import Derived.IntWalk
import Derived.Test.YtpoalgkgomljmaaDoorMg06
import Derived.Test.YtpoalgkgomljmaaDoorMg11
import Derived.Test.YtpoalgkgomljmaaDoorMg07
namespace Go.Proofs.YtpoalgkgomljmaaDoor
open Go.RowKit

theorem filter_fewer {p q : Nat → Bool} (h : ∀ j, q j = true → p j = true) {i : Nat} : ∀ {l : List Nat}, i ∈ l → p i = true → q i = false → (l.filter q).length < (l.filter p).length
  | [], hi, _, _ => by cases hi
  | j :: r, hi, hp, hq => by
    have hle : ∀ l : List Nat, (l.filter q).length ≤ (l.filter p).length := fun l => by
      induction l with
      | nil => exact Nat.le_refl _
      | cons x r ih =>
        rw [List.filter_cons, List.filter_cons]
        by_cases hx : q x = true
        · rw [if_pos hx, if_pos (h x hx)]; simp; exact ih
        · rw [if_neg hx]
          split
          · simp; omega
          · exact ih
    rw [List.filter_cons, List.filter_cons]
    rcases List.mem_cons.1 hi with e | e
    · subst e
      rw [if_neg (by rw [hq]; simp), if_pos hp]
      have := hle r
      simp; omega
    · have := filter_fewer h e hp hq
      by_cases hx : q j = true
      · rw [if_pos hx, if_pos (h j hx)]; simp; exact this
      · rw [if_neg hx]
        split
        · simp; omega
        · exact this
theorem getD_set (l : Array Bool) (i k : Nat) (d : Bool) (hi : i < l.size) : (l.setIfInBounds i true).getD k d = (if k = i then true else l.getD k d) := by
  rw [Array.getD_eq_getD_getElem?, Array.getD_eq_getD_getElem?, Array.getElem?_setIfInBounds]
  by_cases h : i = k
  · subst h; simp [hi]
  · rw [if_neg h, if_neg (Ne.symm h)]
section
variable {P : Program} {ops : Array Oper} {Q : Exit → Act → World → Prop} {Inv : (Nat → Bool) → Act → World → Prop}
theorem wpAny_inv
    (hstep : ∀ (L : Nat → Bool) (i : Nat) (o : Oper) (a : Act) (w : World), ops[i]? = some o → L i = false → (∀ e ∈ o.after, Region.binds .any e = true → L e.on = true) → Inv L a w →
      ∀ K : Act → World → Prop, (∀ a w, Inv (fun k => k == i || L k) a w → K a w) → if Region.wanted o (yielded ops a.tmps) = true then Oper.wp P o a w K Q else K (a.put o.dst undef) w)
    (hend : ∀ (L : Nat → Bool) (a : Act) (w : World), (∀ i o, ops[i]? = some o → L i = false → ∃ e ∈ o.after, Region.binds .any e = true ∧ L e.on = false) → Inv L a w → Q .normal a w) :
    ∀ (fuel : Nat) (listed : Array Bool) (a : Act) (w : World), listed.size = ops.size → ((List.range ops.size).filter fun i => !listed.getD i true).length ≤ fuel → Inv (fun k => listed.getD k false) a w → wpAny P .any ops Q fuel listed a w := by
  have same : ∀ (listed : Array Bool) (i : Nat), i < listed.size → listed.getD i true = listed.getD i false := fun listed i hi => by
    unfold Array.getD
    rw [dif_pos hi, dif_pos hi]
  have fin : ∀ (listed : Array Bool) (a : Act) (w : World), listed.size = ops.size → Region.ready .any ops listed = [] → Inv (fun k => listed.getD k false) a w → Q .normal a w := by
    intro listed a w hsz hr hI
    refine hend _ a w (fun i o ho hL => ?_) hI
    have hi : i < ops.size := (Array.getElem?_eq_some_iff.1 ho).1
    unfold Region.ready at hr
    have h1 := List.filter_eq_nil_iff.1 hr i (List.mem_range.2 hi)
    rw [same listed i (by omega), ho] at h1
    have h2 : (!listed.getD i false) = true := by simpa using hL
    rw [h2, Bool.true_and] at h1
    simp only [Option.map_some, Option.getD_some] at h1
    rw [Array.all_eq_true'] at h1
    obtain ⟨e, he⟩ := Classical.not_forall.1 h1
    obtain ⟨he1, he2⟩ := Classical.not_imp.1 he
    refine ⟨e, he1, ?_⟩
    cases hb : Region.binds .any e with
    | false => rw [hb] at he2; simp at he2
    | true =>
      rw [hb] at he2
      exact ⟨rfl, by simpa using he2⟩
  intro fuel
  induction fuel with
  | zero =>
    intro listed a w hsz hf hI
    have hr : Region.ready .any ops listed = [] := by
      have h0 : ((List.range ops.size).filter fun i => !listed.getD i true) = [] := List.eq_nil_of_length_eq_zero (by omega)
      unfold Region.ready
      rw [List.filter_eq_nil_iff] at h0 ⊢
      intro i hi
      have := h0 i hi
      rw [Bool.not_eq_true] at this
      rw [this]
      simp
    exact ⟨hr, fin listed a w hsz hr hI⟩
  | succ fuel ih =>
    intro listed a w hsz hf hI
    refine ⟨fun hr => fin listed a w hsz hr hI, fun i hi => ?_⟩
    unfold Region.ready at hi
    rw [List.mem_filter, List.mem_range, Bool.and_eq_true] at hi
    obtain ⟨hil, hi1, hi2⟩ := hi
    obtain ⟨o, ho⟩ : ∃ o, ops[i]? = some o := ⟨_, Array.getElem?_eq_getElem hil⟩
    rw [ho] at hi2
    simp only [Option.map_some, Option.getD_some] at hi2
    rw [Array.all_eq_true'] at hi2
    refine wpOp_step ho fun K' hK => ?_
    refine hstep _ i o a w ho (by rw [same listed i (by omega)] at hi1; simpa using hi1) (fun e he hb => ?_) hI K' (fun a' w' hI' => hK a' w' ?_)
    · have := hi2 e he
      rw [hb] at this
      simpa using this
    · refine ih _ a' w' (by simpa using hsz) ?_ ?_
      · have hlt := filter_fewer (p := fun j => !listed.getD j true) (q := fun j => !(listed.setIfInBounds i true).getD j true) (i := i) (l := List.range ops.size) (fun j hj => by
          by_cases hji : j = i
          · subst hji
            exact hi1
          · rw [getD_set _ _ _ _ (by omega), if_neg hji] at hj
            exact hj) (List.mem_range.2 hil) hi1 (by rw [getD_set _ _ _ _ (by omega), if_pos rfl]; rfl)
        omega
      · have e : (fun k => (listed.setIfInBounds i true).getD k false) = fun k => k == i || listed.getD k false := by
          funext k
          rw [getD_set _ _ _ _ (by omega)]
          by_cases hki : k = i
          · subst hki; simp
          · simp [hki]
        rw [e]; exact hI'
/-- the region, by what holds of the operations that have come up -/
theorem wp_region_inv {id : Nat} {a : Act} {w : World} (hm : P.follows .mixedOrders = true) (h0 : Inv (fun _ => false) a { w with drawn := w.drawn + 1 })
    (hstep : ∀ (L : Nat → Bool) (i : Nat) (o : Oper) (a : Act) (w : World), ops[i]? = some o → L i = false → (∀ e ∈ o.after, Region.binds .any e = true → L e.on = true) → Inv L a w →
      ∀ K : Act → World → Prop, (∀ a w, Inv (fun k => k == i || L k) a w → K a w) → if Region.wanted o (yielded ops a.tmps) = true then Oper.wp P o a w K Q else K (a.put o.dst undef) w)
    (hend : ∀ (L : Nat → Bool) (a : Act) (w : World), (∀ i o, ops[i]? = some o → L i = false → ∃ e ∈ o.after, Region.binds .any e = true ∧ L e.on = false) → Inv L a w → Q .normal a w) : (Code.region id ops true).wp P Q a w := by
  refine wp_region_any hm (wpAny_inv hstep hend _ _ a _ (by simp) ?_ ?_)
  · refine Nat.le_trans (List.length_filter_le _ _) ?_
    simp
  · have e : (fun k => (Array.replicate ops.size false).getD k false) = fun _ => false := by
      funext k
      unfold Array.getD
      split
      · simp
      · rfl
    rw [e]; exact h0
end

end Go.Proofs.YtpoalgkgomljmaaDoor

namespace Go.Proofs.YtpoalgkgomljmaaDoor
open Go.RowKit

theorem underL_yes {g : Gr} {k : Nat} (h : rightG g = true) (hk : k < g.length) : underL g (k : Int) = numsF (overG g k) g.length := by
  unfold underL
  rw [if_pos ⟨h, by omega, by omega⟩, Int.toNat_natCast]
theorem aboveL_yes {g : Gr} {k : Nat} (h : rightG g = true) (hk : k < g.length) : aboveL g (k : Int) = numsF (fun m => overG g m k) (k + 1) := by
  unfold aboveL
  rw [if_pos ⟨h, by omega, by omega⟩, Int.toNat_natCast]
theorem underL_no {g : Gr} {a : Int} (h : thereB g a = false) : underL g a = [] := by
  unfold underL
  rw [if_neg (fun h' => by rw [thereB_is.2 h'] at h; cases h)]
theorem aboveL_no {g : Gr} {a : Int} (h : thereB g a = false) : aboveL g a = [] := by
  unfold aboveL
  rw [if_neg (fun h' => by rw [thereB_is.2 h'] at h; cases h)]
/-- the marks of what is under a, as far as i -/
def undM (g : Gr) (a i : Nat) : Nat → Bool := fun j => decide (j < i) && overG g a j
theorem undM_start (g : Gr) (a : Nat) : ∀ k, mset (fun _ => false) a true k = undM g a (a + 1) k := by
  intro k
  unfold undM
  by_cases h : k = a
  · subst h; rw [mset_same, over_self, decide_eq_true (by omega)]; rfl
  · rw [mset_other _ _ h]
    by_cases h' : k < a + 1
    · have : overG g a k = false := by
        cases ho : overG g a k with
        | false => rfl
        | true => exact absurd (over_le ho) (by omega)
      rw [this, Bool.and_false]
    · rw [decide_eq_false h', Bool.false_and]
theorem undM_step {g : Gr} (hg : RightG g) {a i : Nat} (hi : i < g.length) (ha : a < i) : ∀ k, mset (undM g a i) i (undM g a i (par g i)) k = undM g a (i + 1) k := by
  intro k
  have hp := (hg.up i (by omega) hi).2
  have e : undM g a i (par g i) = overG g a i := by
    unfold undM
    rw [decide_eq_true hp, Bool.true_and, over_up hg hi ha]
  by_cases h : k = i
  · subst h; rw [mset_same, e]; unfold undM; rw [decide_eq_true (by omega), Bool.true_and]
  · rw [mset_other _ _ h]
    unfold undM
    by_cases h' : k < i
    · rw [decide_eq_true h', decide_eq_true (by omega)]
    · rw [decide_eq_false h', decide_eq_false (by omega)]

set_option maxRecDepth 100000 in
set_option maxHeartbeats 4000000 in
theorem under_any (A : Option Addr) (n c : Nat) (g : Gr) (a : Int) (w : World) (h : GAsk w A n c g) (_ : I64 a) :
    Calls Tryd.prog 49 #[.slice A n c, .int .i64 a] w (IPost (underL g a) w) := by
  have HN : Hid (n ≤ maxLen) := Lib.hid (ml300 h.few)
  have HR := Lib.hid h.reads
  have HL := Lib.hid h.reads.len
  clear h
  cases ht : thereB g a with
  | false =>
    rw [underL_no ht]
    have HT := Lib.hid ht
    clear ht
    go_enter Tryd.func49, Tryd.ntmps49
    go_wp2_with fail
    refine (there_b HR.out HN.out HT.out).mono ?_
    rintro e w1 ⟨rfl, hb⟩
    have HB := Lib.hid hb
    clear hb
    go_wp2
    go_ret
    exact ipost_nil HB.out
  | true =>
    obtain ⟨hg, ha0, han⟩ := thereB_is.1 ht
    have HT := Lib.hid ht
    have HG := Lib.hid (rightG_is hg)
    obtain ⟨k0, rfl⟩ : ∃ k0 : Nat, a = (k0 : Int) := ⟨a.toNat, by omega⟩
    have hk0 : k0 < n := by have := HL.out; omega
    have hn256 : n ≤ 256 := by have := HG.out.few; have := HL.out; omega
    have hk256 : k0 < 256 := by omega
    have HRES : Hid (underL g (k0 : Int) = numsF (overG g k0) n) := Lib.hid (by rw [underL_yes hg (by have := HL.out; omega), HL.out])
    clear ht hg ha0 han
    go_enter Tryd.func49, Tryd.ntmps49
    go_wp2_with fail
    refine (there_b HR.out HN.out HT.out).mono ?_
    rintro e w1 ⟨rfl, hb⟩
    have HB := Lib.hid hb
    have HR1 := Lib.hid (HR.out.next hb)
    clear hb
    go_wp2_with (with_reducible refine wpList_alloc_marks rfl rfl ?_; intro w2 hm; refine Hid.out ?_)
    refine Lib.hid ?_
    have hc := hm.cell hk256
    have hf := hm.frozen k0
    have HM2 : Hid (Marks w1 (undM g k0 (k0 + 1)) (w2.setCell ⟨w1.heap.size, k0, none⟩ (.bool true))) := Lib.hid ((hm.set true).ext (fun j _ => undM_start g k0 j))
    clear hm
    go_wp2
    clear hc hf
    go_loopw [6] (fun i wr => ∃ k : Nat, k0 < k ∧ k ≤ n ∧ i = .int .i64 k ∧ Marks w1 (undM g k0 k) wr) (fun i _ => n - (intOf i).toNat)
    case atStart => exact ⟨k0 + 1, by omega, by omega, by go_num, HM2.out⟩
    case round =>
      obtain ⟨k, hk0k, hk, rfl, hm⟩ := hrel
      by_cases hlt : k < n
      · have HMk := Lib.hid hm
        have HRk := Lib.hid (HR1.out.next hm.bel)
        have hkl : k < g.length := by have := HL.out; omega
        have hup := HG.out.up k (by omega) hkl
        have HST := Lib.hid (undM_step HG.out hkl hk0k)
        obtain ⟨b, off, rfl, hbw, _, hc1, _, _⟩ := HRk.out.one hlt
        obtain ⟨p, hp⟩ : ∃ p, par g k = p := ⟨_, rfl⟩
        have hu : gu g k = (p : Int) := by unfold par at hp; omega
        rw [hu] at hc1
        rw [hp] at hup HST
        have hpk := hup.2
        have hp256 : p < 256 := by omega
        have hk256' : k < 256 := by omega
        have hcp := hm.cell hp256
        have hck := hm.cell hk256'
        have hfk := hm.frozen k
        have HM3 : Hid (Marks w1 (undM g k0 (k + 1)) (wr.setCell ⟨w1.heap.size, k, none⟩ (.bool (undM g k0 k p)))) := Lib.hid ((hm.set _).ext (fun j _ => HST.out j))
        generalize undM g k0 k p = bp at *
        clear hu hp hup hm hkl HST
        go_wp2
        clear hcp hck hfk hc1
        go_roundw
        case rel => exact ⟨k + 1, by omega, by omega, by go_num, HM3.out⟩
        case measure => simp [intOf]; omega
      · have hkn : k = n := by omega
        subst hkn
        have HM := Lib.hid hm
        have HBM := Lib.hid (HB.out.trans (hm.bel.mono HB.out.size))
        have e1 : Hid (numsF (undM g k0 k) 256 = underL g (k0 : Int)) := Lib.hid (by rw [HRES.out]; exact numsF_cut hn256)
        clear hm
        go_wp2_with (with_reducible refine wpList_load_marks rfl _ rfl HM.out rfl ?_; refine Hid.out ?_)
        refine Lib.hid ?_
        go_wp2_with fail
        refine (marksList_l e1.out).mono ?_
        rintro e w5 ⟨⟨A5, c5, rfl, hri, hnil, hcap⟩, hb5⟩
        have HX := Lib.hid (ipost_mk hri hnil hcap (HBM.out.trans (hb5.mono HBM.out.size)))
        clear hri hnil hcap hb5
        go_wp2
        go_ret
        exact HX.out

/-- the head of a set of numbers: m, and then only higher ones -/
theorem numsF_cons {p q : Nat → Bool} {m : Nat} : ∀ {n : Nat}, m < n → (∀ k, k < n → p k = (k == m || q k)) → (∀ k, k < n → q k = true → m < k) → numsF p n = (m : Int) :: numsF q n := by
  intro n
  induction n with
  | zero => intro h; omega
  | succ n ih =>
    intro hm hp hq
    rw [numsF_succ p n, numsF_succ q n, hp n (by omega)]
    by_cases h : n = m
    · subst h
      have e0 : ∀ r : Nat → Bool, (∀ k, k < n → r k = false) → numsF r n = [] := fun r hr => by
        unfold numsF
        rw [List.filter_eq_nil_iff.2 (fun x hx => by rw [hr x (List.mem_range.1 hx)]; simp)]
        rfl
      have hqk : ∀ k, k < n + 1 → q k = false := fun k hk => by
        cases hqk : q k with
        | false => rfl
        | true => exact absurd (hq k hk hqk) (by omega)
      rw [e0 p (fun k hk => by rw [hp k (by omega), hqk k (by omega)]; simp; omega), e0 q (fun k hk => hqk k (by omega)), hqk n (by omega)]
      simp
    · rw [ih (by omega) (fun k hk => hp k (by omega)) (fun k hk => hq k (by omega))]
      have : (n == m) = false := by simpa using h
      rw [this, Bool.false_or]
      rfl
/-- what is above a, beyond m -/
def upL (g : Gr) (a : Nat) (m : Int) : List Int := numsF (fun k => decide (m < k) && overG g k a) (a + 1)
theorem upL_start (g : Gr) (a : Nat) : upL g a (a : Int) = [] := by
  unfold upL numsF
  rw [List.filter_eq_nil_iff.2 (fun x hx => by have := List.mem_range.1 hx; rw [decide_eq_false (by omega)]; simp)]
  rfl
theorem upL_end (g : Gr) (a : Nat) : upL g a (-1) = numsF (fun m => overG g m a) (a + 1) := by
  unfold upL
  exact numsF_ext (fun k _ => by rw [decide_eq_true (by omega), Bool.true_and])
theorem upL_step {g : Gr} (hg : RightG g) {a m : Nat} (ha : a < g.length) (h : overG g m a = true) : upL g a (gu g m) = (m : Int) :: upL g a (m : Int) := by
  have hma := over_le h
  unfold upL
  refine numsF_cons (by omega) (fun k hk => ?_) (fun k _ hq => ?_)
  · rcases Nat.lt_trichotomy k m with hkm | hkm | hkm
    · have h1 : (k == m) = false := by simp; omega
      have h2 : decide ((m : Int) < (k : Int)) = false := by simp; omega
      rw [h1, h2, Bool.false_and, Bool.or_false]
      have hpu := (hg.up m (by omega) (by omega)).1
      by_cases hku : gu g m < (k : Int)
      · cases ho : overG g k a with
        | false => rw [Bool.and_false]
        | true =>
          have h3 := over_chain hg a ha ho h (by omega)
          rw [over_up hg (by omega) hkm] at h3
          have := over_le h3
          unfold par at this
          omega
      · rw [decide_eq_false hku, Bool.false_and]
    · subst hkm
      have hup : gu g k < (k : Int) := by
        rcases Nat.eq_zero_or_pos k with h0 | h0
        · subst h0; have := hg.top.2; omega
        · have := hg.up k h0 (by omega); unfold par at this; omega
      rw [decide_eq_true hup, h]; simp
    · have h1 : (k == m) = false := by simp; omega
      have h2 : decide ((m : Int) < (k : Int)) = true := by simp; omega
      have hup : gu g m < (k : Int) := by
        rcases Nat.eq_zero_or_pos m with h0 | h0
        · subst h0; have := hg.top.2; omega
        · have := hg.up m h0 (by omega); unfold par at this; omega
      rw [h1, h2, decide_eq_true hup]; simp
  · rw [Bool.and_eq_true, decide_eq_true_eq] at hq
    omega
theorem over_parent {g : Gr} (hg : RightG g) {a m : Nat} (ha : a < g.length) (hm : 0 < m) (h : overG g m a = true) : overG g (par g m) a = true := by
  have hma := over_le h
  have h2 : overG g (par g m) m = true := by
    rw [over_up hg (by omega) (hg.up m hm (by omega)).2]
    exact over_self
  exact over_trans hg a ha h h2


end Go.Proofs.YtpoalgkgomljmaaDoor

namespace Go.Proofs.YtpoalgkgomljmaaDoor
open Go.RowKit

theorem graphOk_is : GraphOk where
  right := fun A n c g w h _ => graphRight_any A n c g w h.reads (ml300 h.few)
  tag := fun s w h _ => (tag_any s w h).mono fun _ _ ⟨h1, q, h2⟩ => ⟨h1, by rw [h2]; exact bel_drew w q⟩
  under := fun A n c g a w h ha _ => under_any A n c g a w h ha
  nodes := fun A n c g w h _ => nodes_any A n c g w h

end Go.Proofs.YtpoalgkgomljmaaDoor

namespace Go.Proofs.YtpoalgkgomljmaaDoor
open Go.RowKit

theorem btw_b {x a b : Int} {w : World} {r : Bool} (h : decide (a ≤ x ∧ x ≤ b) = r) : Calls Tryd.prog 43 #[.int .i64 x, .int .i64 a, .int .i64 b] w fun e w' => e = .returned (.bool r) ∧ w = w' := by
  subst h
  by_cases h1 : a ≤ x
  · by_cases h2 : x ≤ b
    · have e1 : Hid (decide (a ≤ x ∧ x ≤ b) = true) := Lib.hid (decide_eq_true ⟨h1, h2⟩)
      have d1 : decide (a ≤ x) = true := decide_eq_true h1
      have d2 : decide (x ≤ b) = true := decide_eq_true h2
      clear h1 h2
      go_enter Tryd.func43, Tryd.ntmps43
      go_wp2
      go_ret
      exact ⟨ret_bool e1.out, rfl⟩
    · have e1 : Hid (decide (a ≤ x ∧ x ≤ b) = false) := Lib.hid (decide_eq_false (fun h => h2 h.2))
      have d1 : decide (a ≤ x) = true := decide_eq_true h1
      have d2 : decide (x ≤ b) = false := decide_eq_false h2
      clear h1 h2
      go_enter Tryd.func43, Tryd.ntmps43
      go_wp2
      go_ret
      exact ⟨ret_bool e1.out, rfl⟩
  · have e1 : Hid (decide (a ≤ x ∧ x ≤ b) = false) := Lib.hid (decide_eq_false (fun h => h1 h.1))
    have d1 : decide (a ≤ x) = false := decide_eq_false h1
    clear h1
    go_enter Tryd.func43, Tryd.ntmps43
    go_wp2
    go_ret
    exact ⟨ret_bool e1.out, rfl⟩
theorem btwl_b {x a b : Int} {w : World} {r : Bool} (h : decide (a ≤ x ∧ x ≤ b) = r) : Calls Tryd.prog 45 #[.int .i64 x, .int .i64 a, .int .i64 b] w fun e w' => e = .returned (.bool r) ∧ w = w' := by
  subst h
  by_cases h1 : a ≤ x
  · by_cases h2 : x ≤ b
    · have e1 : Hid (decide (a ≤ x ∧ x ≤ b) = true) := Lib.hid (decide_eq_true ⟨h1, h2⟩)
      have d1 : decide (a ≤ x) = true := decide_eq_true h1
      have d2 : decide (x ≤ b) = true := decide_eq_true h2
      clear h1 h2
      go_enter Tryd.func45, Tryd.ntmps45
      go_wp2
      go_ret
      exact ⟨ret_bool e1.out, rfl⟩
    · have e1 : Hid (decide (a ≤ x ∧ x ≤ b) = false) := Lib.hid (decide_eq_false (fun h => h2 h.2))
      have d1 : decide (a ≤ x) = true := decide_eq_true h1
      have d2 : decide (x ≤ b) = false := decide_eq_false h2
      clear h1 h2
      go_enter Tryd.func45, Tryd.ntmps45
      go_wp2
      go_ret
      exact ⟨ret_bool e1.out, rfl⟩
  · have e1 : Hid (decide (a ≤ x ∧ x ≤ b) = false) := Lib.hid (decide_eq_false (fun h => h1 h.1))
    have d1 : decide (a ≤ x) = false := decide_eq_false h1
    clear h1
    go_enter Tryd.func45, Tryd.ntmps45
    go_wp2
    go_ret
    exact ⟨ret_bool e1.out, rfl⟩
theorem tag_b {s : ByteArray} {w : World} {b : Bool} (hs : s.size ≤ maxLen) (h : tagB s = b) : Calls Tryd.prog 44 #[.string s] w fun e w' => e = .returned (.bool b) ∧ ∃ q, w' = w.drewN q := by
  subst h
  exact tag_any s w hs

set_option maxRecDepth 100000 in
set_option maxHeartbeats 4000000 in
theorem specRightV_any (sn sc sg : Int) (st : ByteArray) (sw : Bool) (sl sp : Int) (w : World) (hm : st.size ≤ maxLen) :
    Calls Tryd.prog 31 #[.agg #[.int .i64 sn, .int .i64 sc, .int .i64 sg, .string st, .bool sw, .int .i64 sl, .int .i64 sp]] w fun e w' => e = .returned (.bool (rightS ⟨sn, sc, sg, st, sw, sl, sp⟩)) ∧ Below w.heap.size w w' := by
  have HM := Lib.hid hm
  clear hm
  have HB : Hid (Below w.heap.size w (w.alloc (.cells #[.int .i64 sn, .int .i64 sc, .int .i64 sg, .string st, .bool sw, .int .i64 sl, .int .i64 sp] 26))) := Lib.hid ((Below.refl _ _).alloc (Nat.le_refl _) _)
  have hno0 := rightS_no (s := ⟨sn, sc, sg, st, sw, sl, sp⟩)
  have hyes0 := rightS_mk (s := ⟨sn, sc, sg, st, sw, sl, sp⟩)
  dsimp only at hno0 hyes0
  have hno := Lib.hid hno0
  have hyes := Lib.hid hyes0
  clear hno0 hyes0
  by_cases kn : 1 ≤ sn ∧ sn ≤ 64
  · have Bn := Lib.hid (decide_eq_true kn)
    by_cases kc : 0 ≤ sc ∧ sc ≤ 64
    · have Bc := Lib.hid (decide_eq_true kc)
      by_cases kg : 0 ≤ sg ∧ sg ≤ 64
      · have Bg := Lib.hid (decide_eq_true kg)
        by_cases kz : sc = 0 ∧ sg = 0 ∧ sw = false
        · have e1 := Lib.hid (hno.out (fun h => h.2.2.2.2.1 kz))
          clear hno hyes
          obtain ⟨rfl, rfl, rfl⟩ := kz
          go_enter Tryd.func31, Tryd.ntmps31
          go_wp2_with fail
          refine (btw_b Bn.out).mono ?_
          rintro e w1 ⟨rfl, rfl⟩
          go_wp2_with fail
          refine (btw_b Bc.out).mono ?_
          rintro e w1 ⟨rfl, rfl⟩
          go_wp2_with fail
          refine (btw_b Bg.out).mono ?_
          rintro e w1 ⟨rfl, rfl⟩
          go_wp2
          go_ret
          exact ⟨ret_bool e1.out, HB.out⟩
        · have KZ := Lib.hid kz
          clear kz
          cases ht : tagB st with
          | true =>
            have HT := Lib.hid ht
            clear ht
            by_cases kl : 1 ≤ sl ∧ sl ≤ 1099511627776
            · have Bl := Lib.hid (decide_eq_true kl)
              by_cases kp : -1000 ≤ sp ∧ sp ≤ 1000
              · have Bp := Lib.hid (decide_eq_true kp)
                have e1 := Lib.hid (hyes.out ⟨HT.out, kn, kc, kg, KZ.out, kl, kp⟩)
                clear hno hyes
                by_cases k0 : 0 < sc
                · have c0 : decide (0 < sc) = true := by simpa using k0
                  go_enter Tryd.func31, Tryd.ntmps31
                  go_wp2_with fail
                  refine (btw_b Bn.out).mono ?_
                  rintro e w1 ⟨rfl, rfl⟩
                  go_wp2_with fail
                  refine (btw_b Bc.out).mono ?_
                  rintro e w1 ⟨rfl, rfl⟩
                  go_wp2_with fail
                  refine (btw_b Bg.out).mono ?_
                  rintro e w1 ⟨rfl, rfl⟩
                  go_wp2_with fail
                  refine (tag_b HM.out HT.out).mono ?_
                  rintro e w1 ⟨rfl, q, rfl⟩
                  go_wp2_with fail
                  refine (btwl_b Bl.out).mono ?_
                  rintro e w1 ⟨rfl, rfl⟩
                  go_wp2_with fail
                  refine (btw_b Bp.out).mono ?_
                  rintro e w1 ⟨rfl, rfl⟩
                  go_wp2
                  go_ret
                  exact ⟨ret_bool e1.out, HB.out.trans ((bel_drew _ q).mono HB.out.size)⟩
                · have c0 : decide (0 < sc) = false := by simpa using k0
                  by_cases k1 : 0 < sg
                  · have c1 : decide (0 < sg) = true := by simpa using k1
                    go_enter Tryd.func31, Tryd.ntmps31
                    go_wp2_with fail
                    refine (btw_b Bn.out).mono ?_
                    rintro e w1 ⟨rfl, rfl⟩
                    go_wp2_with fail
                    refine (btw_b Bc.out).mono ?_
                    rintro e w1 ⟨rfl, rfl⟩
                    go_wp2_with fail
                    refine (btw_b Bg.out).mono ?_
                    rintro e w1 ⟨rfl, rfl⟩
                    go_wp2_with fail
                    refine (tag_b HM.out HT.out).mono ?_
                    rintro e w1 ⟨rfl, q, rfl⟩
                    go_wp2_with fail
                    refine (btwl_b Bl.out).mono ?_
                    rintro e w1 ⟨rfl, rfl⟩
                    go_wp2_with fail
                    refine (btw_b Bp.out).mono ?_
                    rintro e w1 ⟨rfl, rfl⟩
                    go_wp2
                    go_ret
                    exact ⟨ret_bool e1.out, HB.out.trans ((bel_drew _ q).mono HB.out.size)⟩
                  · have c1 : decide (0 < sg) = false := by simpa using k1
                    have hsw : sw = true := by
                      cases sw with
                      | true => rfl
                      | false => exact absurd ⟨by omega, by omega, rfl⟩ KZ.out
                    subst hsw
                    go_enter Tryd.func31, Tryd.ntmps31
                    go_wp2_with fail
                    refine (btw_b Bn.out).mono ?_
                    rintro e w1 ⟨rfl, rfl⟩
                    go_wp2_with fail
                    refine (btw_b Bc.out).mono ?_
                    rintro e w1 ⟨rfl, rfl⟩
                    go_wp2_with fail
                    refine (btw_b Bg.out).mono ?_
                    rintro e w1 ⟨rfl, rfl⟩
                    go_wp2_with fail
                    refine (tag_b HM.out HT.out).mono ?_
                    rintro e w1 ⟨rfl, q, rfl⟩
                    go_wp2_with fail
                    refine (btwl_b Bl.out).mono ?_
                    rintro e w1 ⟨rfl, rfl⟩
                    go_wp2_with fail
                    refine (btw_b Bp.out).mono ?_
                    rintro e w1 ⟨rfl, rfl⟩
                    go_wp2
                    go_ret
                    exact ⟨ret_bool e1.out, HB.out.trans ((bel_drew _ q).mono HB.out.size)⟩
              · have Bp := Lib.hid (decide_eq_false kp)
                have e1 := Lib.hid (hno.out (fun h => kp h.2.2.2.2.2.2))
                clear hno hyes
                by_cases k0 : 0 < sc
                · have c0 : decide (0 < sc) = true := by simpa using k0
                  go_enter Tryd.func31, Tryd.ntmps31
                  go_wp2_with fail
                  refine (btw_b Bn.out).mono ?_
                  rintro e w1 ⟨rfl, rfl⟩
                  go_wp2_with fail
                  refine (btw_b Bc.out).mono ?_
                  rintro e w1 ⟨rfl, rfl⟩
                  go_wp2_with fail
                  refine (btw_b Bg.out).mono ?_
                  rintro e w1 ⟨rfl, rfl⟩
                  go_wp2_with fail
                  refine (tag_b HM.out HT.out).mono ?_
                  rintro e w1 ⟨rfl, q, rfl⟩
                  go_wp2_with fail
                  refine (btwl_b Bl.out).mono ?_
                  rintro e w1 ⟨rfl, rfl⟩
                  go_wp2_with fail
                  refine (btw_b Bp.out).mono ?_
                  rintro e w1 ⟨rfl, rfl⟩
                  go_wp2
                  go_ret
                  exact ⟨ret_bool e1.out, HB.out.trans ((bel_drew _ q).mono HB.out.size)⟩
                · have c0 : decide (0 < sc) = false := by simpa using k0
                  by_cases k1 : 0 < sg
                  · have c1 : decide (0 < sg) = true := by simpa using k1
                    go_enter Tryd.func31, Tryd.ntmps31
                    go_wp2_with fail
                    refine (btw_b Bn.out).mono ?_
                    rintro e w1 ⟨rfl, rfl⟩
                    go_wp2_with fail
                    refine (btw_b Bc.out).mono ?_
                    rintro e w1 ⟨rfl, rfl⟩
                    go_wp2_with fail
                    refine (btw_b Bg.out).mono ?_
                    rintro e w1 ⟨rfl, rfl⟩
                    go_wp2_with fail
                    refine (tag_b HM.out HT.out).mono ?_
                    rintro e w1 ⟨rfl, q, rfl⟩
                    go_wp2_with fail
                    refine (btwl_b Bl.out).mono ?_
                    rintro e w1 ⟨rfl, rfl⟩
                    go_wp2_with fail
                    refine (btw_b Bp.out).mono ?_
                    rintro e w1 ⟨rfl, rfl⟩
                    go_wp2
                    go_ret
                    exact ⟨ret_bool e1.out, HB.out.trans ((bel_drew _ q).mono HB.out.size)⟩
                  · have c1 : decide (0 < sg) = false := by simpa using k1
                    have hsw : sw = true := by
                      cases sw with
                      | true => rfl
                      | false => exact absurd ⟨by omega, by omega, rfl⟩ KZ.out
                    subst hsw
                    go_enter Tryd.func31, Tryd.ntmps31
                    go_wp2_with fail
                    refine (btw_b Bn.out).mono ?_
                    rintro e w1 ⟨rfl, rfl⟩
                    go_wp2_with fail
                    refine (btw_b Bc.out).mono ?_
                    rintro e w1 ⟨rfl, rfl⟩
                    go_wp2_with fail
                    refine (btw_b Bg.out).mono ?_
                    rintro e w1 ⟨rfl, rfl⟩
                    go_wp2_with fail
                    refine (tag_b HM.out HT.out).mono ?_
                    rintro e w1 ⟨rfl, q, rfl⟩
                    go_wp2_with fail
                    refine (btwl_b Bl.out).mono ?_
                    rintro e w1 ⟨rfl, rfl⟩
                    go_wp2_with fail
                    refine (btw_b Bp.out).mono ?_
                    rintro e w1 ⟨rfl, rfl⟩
                    go_wp2
                    go_ret
                    exact ⟨ret_bool e1.out, HB.out.trans ((bel_drew _ q).mono HB.out.size)⟩
            · have Bl := Lib.hid (decide_eq_false kl)
              have e1 := Lib.hid (hno.out (fun h => kl h.2.2.2.2.2.1))
              clear hno hyes
              by_cases k0 : 0 < sc
              · have c0 : decide (0 < sc) = true := by simpa using k0
                go_enter Tryd.func31, Tryd.ntmps31
                go_wp2_with fail
                refine (btw_b Bn.out).mono ?_
                rintro e w1 ⟨rfl, rfl⟩
                go_wp2_with fail
                refine (btw_b Bc.out).mono ?_
                rintro e w1 ⟨rfl, rfl⟩
                go_wp2_with fail
                refine (btw_b Bg.out).mono ?_
                rintro e w1 ⟨rfl, rfl⟩
                go_wp2_with fail
                refine (tag_b HM.out HT.out).mono ?_
                rintro e w1 ⟨rfl, q, rfl⟩
                go_wp2_with fail
                refine (btwl_b Bl.out).mono ?_
                rintro e w1 ⟨rfl, rfl⟩
                go_wp2
                go_ret
                exact ⟨ret_bool e1.out, HB.out.trans ((bel_drew _ q).mono HB.out.size)⟩
              · have c0 : decide (0 < sc) = false := by simpa using k0
                by_cases k1 : 0 < sg
                · have c1 : decide (0 < sg) = true := by simpa using k1
                  go_enter Tryd.func31, Tryd.ntmps31
                  go_wp2_with fail
                  refine (btw_b Bn.out).mono ?_
                  rintro e w1 ⟨rfl, rfl⟩
                  go_wp2_with fail
                  refine (btw_b Bc.out).mono ?_
                  rintro e w1 ⟨rfl, rfl⟩
                  go_wp2_with fail
                  refine (btw_b Bg.out).mono ?_
                  rintro e w1 ⟨rfl, rfl⟩
                  go_wp2_with fail
                  refine (tag_b HM.out HT.out).mono ?_
                  rintro e w1 ⟨rfl, q, rfl⟩
                  go_wp2_with fail
                  refine (btwl_b Bl.out).mono ?_
                  rintro e w1 ⟨rfl, rfl⟩
                  go_wp2
                  go_ret
                  exact ⟨ret_bool e1.out, HB.out.trans ((bel_drew _ q).mono HB.out.size)⟩
                · have c1 : decide (0 < sg) = false := by simpa using k1
                  have hsw : sw = true := by
                    cases sw with
                    | true => rfl
                    | false => exact absurd ⟨by omega, by omega, rfl⟩ KZ.out
                  subst hsw
                  go_enter Tryd.func31, Tryd.ntmps31
                  go_wp2_with fail
                  refine (btw_b Bn.out).mono ?_
                  rintro e w1 ⟨rfl, rfl⟩
                  go_wp2_with fail
                  refine (btw_b Bc.out).mono ?_
                  rintro e w1 ⟨rfl, rfl⟩
                  go_wp2_with fail
                  refine (btw_b Bg.out).mono ?_
                  rintro e w1 ⟨rfl, rfl⟩
                  go_wp2_with fail
                  refine (tag_b HM.out HT.out).mono ?_
                  rintro e w1 ⟨rfl, q, rfl⟩
                  go_wp2_with fail
                  refine (btwl_b Bl.out).mono ?_
                  rintro e w1 ⟨rfl, rfl⟩
                  go_wp2
                  go_ret
                  exact ⟨ret_bool e1.out, HB.out.trans ((bel_drew _ q).mono HB.out.size)⟩
          | false =>
            have HT := Lib.hid ht
            clear ht
            have e1 := Lib.hid (hno.out (fun h => by have := h.1; rw [HT.out] at this; cases this))
            clear hno hyes
            by_cases k0 : 0 < sc
            · have c0 : decide (0 < sc) = true := by simpa using k0
              go_enter Tryd.func31, Tryd.ntmps31
              go_wp2_with fail
              refine (btw_b Bn.out).mono ?_
              rintro e w1 ⟨rfl, rfl⟩
              go_wp2_with fail
              refine (btw_b Bc.out).mono ?_
              rintro e w1 ⟨rfl, rfl⟩
              go_wp2_with fail
              refine (btw_b Bg.out).mono ?_
              rintro e w1 ⟨rfl, rfl⟩
              go_wp2_with fail
              refine (tag_b HM.out HT.out).mono ?_
              rintro e w1 ⟨rfl, q, rfl⟩
              go_wp2
              go_ret
              exact ⟨ret_bool e1.out, HB.out.trans ((bel_drew _ q).mono HB.out.size)⟩
            · have c0 : decide (0 < sc) = false := by simpa using k0
              by_cases k1 : 0 < sg
              · have c1 : decide (0 < sg) = true := by simpa using k1
                go_enter Tryd.func31, Tryd.ntmps31
                go_wp2_with fail
                refine (btw_b Bn.out).mono ?_
                rintro e w1 ⟨rfl, rfl⟩
                go_wp2_with fail
                refine (btw_b Bc.out).mono ?_
                rintro e w1 ⟨rfl, rfl⟩
                go_wp2_with fail
                refine (btw_b Bg.out).mono ?_
                rintro e w1 ⟨rfl, rfl⟩
                go_wp2_with fail
                refine (tag_b HM.out HT.out).mono ?_
                rintro e w1 ⟨rfl, q, rfl⟩
                go_wp2
                go_ret
                exact ⟨ret_bool e1.out, HB.out.trans ((bel_drew _ q).mono HB.out.size)⟩
              · have c1 : decide (0 < sg) = false := by simpa using k1
                have hsw : sw = true := by
                  cases sw with
                  | true => rfl
                  | false => exact absurd ⟨by omega, by omega, rfl⟩ KZ.out
                subst hsw
                go_enter Tryd.func31, Tryd.ntmps31
                go_wp2_with fail
                refine (btw_b Bn.out).mono ?_
                rintro e w1 ⟨rfl, rfl⟩
                go_wp2_with fail
                refine (btw_b Bc.out).mono ?_
                rintro e w1 ⟨rfl, rfl⟩
                go_wp2_with fail
                refine (btw_b Bg.out).mono ?_
                rintro e w1 ⟨rfl, rfl⟩
                go_wp2_with fail
                refine (tag_b HM.out HT.out).mono ?_
                rintro e w1 ⟨rfl, q, rfl⟩
                go_wp2
                go_ret
                exact ⟨ret_bool e1.out, HB.out.trans ((bel_drew _ q).mono HB.out.size)⟩
      · have Bg := Lib.hid (decide_eq_false kg)
        have e1 := Lib.hid (hno.out (fun h => kg h.2.2.2.1))
        clear hno hyes
        go_enter Tryd.func31, Tryd.ntmps31
        go_wp2_with fail
        refine (btw_b Bn.out).mono ?_
        rintro e w1 ⟨rfl, rfl⟩
        go_wp2_with fail
        refine (btw_b Bc.out).mono ?_
        rintro e w1 ⟨rfl, rfl⟩
        go_wp2_with fail
        refine (btw_b Bg.out).mono ?_
        rintro e w1 ⟨rfl, rfl⟩
        go_wp2
        go_ret
        exact ⟨ret_bool e1.out, HB.out⟩
    · have Bc := Lib.hid (decide_eq_false kc)
      have e1 := Lib.hid (hno.out (fun h => kc h.2.2.1))
      clear hno hyes
      go_enter Tryd.func31, Tryd.ntmps31
      go_wp2_with fail
      refine (btw_b Bn.out).mono ?_
      rintro e w1 ⟨rfl, rfl⟩
      go_wp2_with fail
      refine (btw_b Bc.out).mono ?_
      rintro e w1 ⟨rfl, rfl⟩
      go_wp2
      go_ret
      exact ⟨ret_bool e1.out, HB.out⟩
  · have Bn := Lib.hid (decide_eq_false kn)
    have e1 := Lib.hid (hno.out (fun h => kn h.2.1))
    clear hno hyes
    go_enter Tryd.func31, Tryd.ntmps31
    go_wp2_with fail
    refine (btw_b Bn.out).mono ?_
    rintro e w1 ⟨rfl, rfl⟩
    go_wp2
    go_ret
    exact ⟨ret_bool e1.out, HB.out⟩

theorem specRight_any (s : Sp) (w : World) (hs : SAsk s) :
    Calls Tryd.prog 31 #[spV s] w fun e w' => e = .returned (.bool (rightS s)) ∧ Below w.heap.size w w' := by
  obtain ⟨sn, sc, sg, st, sw, sl, sp⟩ := s
  exact specRightV_any sn sc sg st sw sl sp w hs.tag
theorem specRight_b {s : Sp} {w : World} {b : Bool} (hs : SAsk s) (h : rightS s = b) :
    Calls Tryd.prog 31 #[.agg #[.int .i64 s.nodes, .int .i64 s.cores, .int .i64 s.gpus, .string s.tag, .bool s.whole, .int .i64 s.long, .int .i64 s.prio]] w fun e w' => e = .returned (.bool b) ∧ Below w.heap.size w w' := by
  subst h
  exact specRight_any s w hs

end Go.Proofs.YtpoalgkgomljmaaDoor
