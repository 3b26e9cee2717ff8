/- Go's slices.DeleteFunc of numbers in a row of one's own, by a walk over its text: what it answers; of a question that may make memory of its own. A region that draws its order, shown operation by operation: what holds of those that have come up, whatever the order, is kept by each that may come up next. No program's text is walked here. The program's Under and Above of layer 5 (graph): what they answer of any list of things. Words for memory: an array of five ints in a block of its own. The program's Kinds of layer 5 (graph): what it answers of any list of things and any list of numbers. What the program's functions of layer 5 (graph) answer: the list of contracts that the statements' walks lean on, held. -/
import Derived.Test.YtglboolijhekkaaDoorMg08
import Derived.Orders
import Derived.RegionTactic
import Derived.Test.YtglboolijhekkaaDoorMg01
import Derived.Test.YtglboolijhekkaaDoorMg06
import Derived.Test.YtglboolijhekkaaDoorMg07
namespace Go.Proofs.YtglboolijhekkaaDoor
open Go.RowKit

/-- what is kept of the first b numbers stands ahead, a of them; from number b on the row is as it was -/
structure Pick (w wr : World) (g n cap : Nat) (xs : List Int) (p : Int → Bool) (a b : Nat) (wx : World) : Prop where
  row : ∃ L : List Int, wx.ownsRow w.heap.size 3 1 (.slice (some ⟨g, 0, none⟩) n cap) n (L.map (Value.int .i64)) ∧ L.take a = (xs.take b).filter (fun x => !p x) ∧ L.drop b = xs.drop b
  but : But g wr wx
  lt : a < b
  le : b ≤ n
section
variable {w wr wx w1 : World} {g n cap a b : Nat} {xs : List Int} {p : Int → Bool}
theorem Pick.next (h : Pick w wr g n cap xs p a b wx) (hb : Below wx.heap.size wx w1) : Pick w wr g n cap xs p a b w1 := by
  obtain ⟨L, h1, h2, h3⟩ := h.row
  refine ⟨⟨L, ⟨h1.1, h1.2.imp id ?_⟩, h2, h3⟩, h.but.next hb, h.lt, h.le⟩
  rintro ⟨g', cap', cur, e1, e2, e3, e4⟩
  exact ⟨g', cap', cur, e1, e2, (hb.block g' (Array.getElem?_eq_some_iff.1 e3).1).trans e3, e4⟩
theorem Pick.at (h : Pick w wr g n cap xs p a b wx) (hb : b < n) : wx.cell? ⟨g, b, none⟩ = some (.int .i64 (xs.getD b 0)) := by
  obtain ⟨L, h1, h2, h3⟩ := h.row
  have hL : L.length = n := by have := h1.1; rw [List.length_map] at this; omega
  rw [h1.cellAt b (by omega), List.getElem?_map]
  have e : L[b]? = xs[b]? := by
    have h4 := congrArg (fun l => l[0]?) h3
    simpa using h4
  have hb2 : L[b]? = some L[b] := List.getElem?_eq_getElem (by omega)
  rw [hb2] at e
  rw [hb2, List.getD, ← e]
  rfl
theorem Pick.slot (h : Pick w wr g n cap xs p a b wx) {j : Nat} (hj : j < n) : (∃ u, wx.cell? ⟨g, j, none⟩ = some u) ∧ wx.frozen? ⟨g, j, none⟩ = false := by
  obtain ⟨L, h1, h2, h3⟩ := h.row
  have hL : L.length = n := by have := h1.1; rw [List.length_map] at this; omega
  refine ⟨?_, h1.frozenAt j⟩
  rw [h1.cellAt j (by omega), List.getElem?_map, List.getElem?_eq_getElem (by omega)]
  exact ⟨_, rfl⟩
theorem take_filter {b : Nat} (p : Int → Bool) (hb : b < xs.length) : (xs.take (b + 1)).filter (fun x => !p x) = (xs.take b).filter (fun x => !p x) ++ (if p (xs.getD b 0) = true then [] else [xs.getD b 0]) := by
  have e : xs.getD b 0 = xs[b] := by rw [List.getD, List.getElem?_eq_getElem hb]; rfl
  rw [List.take_succ_eq_append_getElem hb, List.filter_append, e]
  congr 1
  cases h : p xs[b] <;> simp [h]
theorem Pick.skip (h : Pick w wr g n cap xs p a b wx) (hx : xs.length = n) (hb : b < n) (hp : p (xs.getD b 0) = true) : Pick w wr g n cap xs p a (b + 1) wx := by
  obtain ⟨L, h1, h2, h3⟩ := h.row
  refine ⟨⟨L, h1, ?_, ?_⟩, h.but, by have := h.lt; omega, by omega⟩
  · rw [take_filter p (by omega), if_pos hp, List.append_nil, h2]
  · have := congrArg (List.drop 1) h3
    rwa [List.drop_drop, List.drop_drop] at this
theorem Pick.keep (h : Pick w wr g n cap xs p a b wx) (hx : xs.length = n) (hb : b < n) (hp : p (xs.getD b 0) = false) : Pick w wr g n cap xs p (a + 1) (b + 1) (wx.setCell ⟨g, a, none⟩ (.int .i64 (xs.getD b 0))) := by
  obtain ⟨L, h1, h2, h3⟩ := h.row
  have hL : L.length = n := by have := h1.1; rw [List.length_map] at this; omega
  have hab := h.lt
  have hs := h1.stored a (.int .i64 (xs.getD b 0))
  refine ⟨⟨L.set a (xs.getD b 0), by rw [List.map_set]; exact hs.1, ?_, ?_⟩, h.but.set a _, by omega, by omega⟩
  · rw [take_filter p (by omega), if_neg (by rw [hp]; simp), ← h2, List.take_succ_eq_append_getElem (by rw [List.length_set]; omega), List.getElem_set_self, List.take_set_of_le (Nat.le_refl _)]
  · rw [List.drop_set, if_pos (by omega)]
    have := congrArg (List.drop 1) h3
    rwa [List.drop_drop, List.drop_drop] at this
theorem pick_start {k : Nat} (h : wr.ownsRow w.heap.size 3 1 (.slice (some ⟨g, 0, none⟩) n cap) n (xs.map (Value.int .i64))) (hx : xs.length = n) (hk : k < n) (hp : p (xs.getD k 0) = true) (ha : ∀ j, j < k → p (xs.getD j 0) = false) : Pick w wr g n cap xs p k (k + 1) wr := by
  refine ⟨⟨xs, h, ?_, rfl⟩, But.refl _ _, by omega, by omega⟩
  rw [take_filter p (by omega), if_pos hp, List.append_nil]
  symm
  rw [List.filter_eq_self]
  intro x hm
  obtain ⟨j, hj, e⟩ := List.getElem_of_mem hm
  rw [List.length_take] at hj
  have := ha j (by omega)
  rw [List.getD, List.getElem?_eq_getElem (by omega)] at this
  rw [List.getElem_take] at e
  rw [← e]
  simpa using this
theorem below_setCells {B : Nat} (hg : B ≤ g) : ∀ (vs : List Value) (o : Nat) (w1 : World), Below B w w1 → Below B w (w1.setCells g o vs)
  | [], _, _, h => h
  | v :: r, o, w1, h => by
    show Below B w ((w1.setCell ⟨g, o, none⟩ v).setCells g (o + 1) r)
    exact below_setCells hg r (o + 1) _ (h.setCell (p := ⟨g, o, none⟩) hg v)
theorem size_setCells' : ∀ (vs : List Value) (o : Nat) (w1 : World), (w1.setCells g o vs).heap.size = w1.heap.size
  | [], _, _ => rfl
  | v :: r, o, w1 => by
    show ((w1.setCell ⟨g, o, none⟩ v).setCells g (o + 1) r).heap.size = _
    rw [size_setCells' r]
    simp [World.setCell]
/-- all have been looked at, and what is over is cleared -/
theorem Pick.done (h : Pick w wr g n cap xs p a n wx) (hx : xs.length = n) (hn : n ≤ cap) (hw : Below w.heap.size w wr) (hg : g < wr.heap.size) (vs : List Value) :
    IPost (xs.filter fun x => !p x) w (.returned (.slice (some ⟨g, 0, none⟩) a cap)) (wx.setCells g a vs) := by
  obtain ⟨L, h1, h2, h3⟩ := h.row
  have hL : L.length = n := by have := h1.1; rw [List.length_map] at this; omega
  have hgl := h1.lt g rfl
  rw [show xs.take n = xs from List.take_of_length_le (by omega)] at h2
  have hla : a = (xs.filter fun x => !p x).length := by rw [← h2, List.length_take]; have := h.lt; omega
  refine ipost_mk ⟨hla.symm, fun ha => ⟨g, 0, rfl, by rw [size_setCells']; exact hgl.2, fun j hj => ?_⟩⟩ (fun e => by cases e) (by have := h.lt; omega) (below_setCells hgl.1 _ _ _ (hw.trans (h.but.below (by have := hw.size; have := hgl.1; omega) hg)))
  rw [World.cell?_setCells_out _ _ _ _ _ (fun _ _ => .inl (by show 0 + j < a; omega)), Nat.zero_add, h1.cellAt j (by have := h.lt; omega), ← h2, List.getElem?_map, List.getElem?_eq_getElem (by have := h.lt; omega), List.getD, List.getElem?_take_of_lt hj, List.getElem?_eq_getElem (by have := h.lt; omega)]
  rfl
end

theorem zero_int : ∀ w, (zeroValue 3).run Tryd.prog w = .ok (.int .i64 0) w := Tryd.zeroValue3
set_option maxRecDepth 100000 in
set_option maxHeartbeats 4000000 in
theorem deleteFunc_any (fn : Nat) (cb : Array Value) (eg : ∀ args w, (callFunc fn args).run Tryd.prog w = .ok (.enter fn args) w) (p : Int → Bool) (v : Value) (xs : List Int) (w wq : World) (h : ON EI 1 3 w v xs wq)
    (hf : ∀ x ∈ xs, ∀ wx, (∀ g, v.ownBlock = some g → But g wq wx) → Calls Tryd.prog fn (#[.int .i64 x] ++ cb) wx fun e w' => e = .returned (.bool (p x)) ∧ Below wx.heap.size wx w') :
    Calls Tryd.prog 38 #[v, .func (.func fn) #[] cb] wq (IPost (xs.filter fun x => !p x) w) := by
  obtain ⟨h1, h2⟩ := on_own h
  have hri : RI wq wq.heap.size _ _ xs := (h.reads ei_steady (by omega) (h.form.choose_spec.choose_spec.1)).ri
  obtain ⟨A, c, rfl, hnil, hcap⟩ := h.form
  have hmax : xs.length ≤ maxLen := by
    rcases h1.2 with ⟨_, h0⟩ | ⟨g, cap, cur, _, _, _, h3, h4, _⟩
    · rw [h0]; exact Nat.zero_le _
    · exact Nat.le_trans h3 h4
  have hri' : RI wq wq.heap.size A xs.length xs := (h.reads ei_steady (by omega) rfl).ri
  clear hri
  have hIF := indexFunc_any fn cb eg p A xs.length c xs wq hri' hmax (fun x hx wx hb => hf x hx wx (fun g _ => But.of g hb))
  have HB := Lib.hid h2
  have HF := Lib.hid hf
  have HO := Lib.hid h1
  have HI := Lib.hid hIF
  have HH := Lib.hid h
  have HCAP := Lib.hid hcap
  unfold maxLen at hmax
  clear h h1 h2 hf hIF hri' hnil hcap
  go_enter Tryd.func38, Tryd.ntmps38
  go_wp2_with fail
  refine HI.out.mono ?_
  rintro e w1 ⟨⟨r, rfl, hr⟩, hb⟩
  rcases hr with ⟨rfl, hall⟩ | ⟨k, hk, rfl, hp, hpre⟩
  · have HP : Hid (IPost (xs.filter fun x => !p x) w (.returned (.slice A xs.length c)) w1) := Lib.hid (by
      have e : (xs.filter fun x => !p x) = xs := by
        rw [List.filter_eq_self]
        intro x hm
        obtain ⟨j, hj, e⟩ := List.getElem_of_mem hm
        have := hall j hj
        rw [List.getD, List.getElem?_eq_getElem hj] at this
        rw [← e]
        simpa using this
      rw [e]
      exact (HH.out.next ei_steady hb).ipost)
    clear hb hall
    go_wp2
    go_ret
    exact HP.out
  · obtain ⟨g, rfl⟩ : ∃ g, A = some ⟨g, 0, none⟩ := by
      rcases HO.out.2 with ⟨e, h0⟩ | ⟨g, cap, cur, e, _⟩
      · omega
      · injection e with e _ _
        exact ⟨g, e⟩
    have HG := Lib.hid (HO.out.lt g rfl)
    have HPK : Hid (Pick w wq g xs.length c xs p k (k + 1) w1) := Lib.hid ((pick_start HO.out rfl hk hp hpre).next hb)
    have hkd : ((k : Int) == -1) = false := beq_eq_false_iff_ne.2 (by omega)
    obtain ⟨n, hn⟩ : ∃ n, xs.length = n := ⟨_, rfl⟩
    have HN := Lib.hid hn
    rw [hn] at HPK HCAP hk hmax ⊢
    clear hb hp hpre hn HI HO HH
    go_wp2
    go_loopw [5, 6] (fun i j wx => ∃ a b : Nat, i = .int .i64 a ∧ j = .int .i64 b ∧ Pick w wq g n c xs p a b wx) (fun _ j _ => n - (intOf j).toNat)
    case atStart => exact ⟨k, k + 1, rfl, by go_num, HPK.out⟩
    case round =>
      obtain ⟨a, b, rfl, rfl, hrel⟩ := hrel
      have HK := Lib.hid hrel
      clear hrel
      have hab := HK.out.lt
      have hbn := HK.out.le
      by_cases hlt : b < n
      · have hcb := HK.out.at hlt
        obtain ⟨y, hy⟩ : ∃ y, xs.getD b 0 = y := ⟨_, rfl⟩
        have hym : y ∈ xs := by rw [← hy, List.getD, List.getElem?_eq_getElem (by rw [HN.out]; exact hlt)]; exact List.getElem_mem _
        have HC := Lib.hid (HF.out y hym _ (fun g' e => by
          have e' : g = g' := by simpa [Value.ownBlock] using e
          rw [← e']; exact HK.out.but))
        rw [hy] at hcb
        have HY := Lib.hid hy
        clear hy hym
        cases hp : p y with
        | true =>
          rw [hp] at HC
          have HP : Hid (p (xs.getD b 0) = true) := Lib.hid (by rw [HY.out]; exact hp)
          go_wp2_with fail
          refine HC.out.mono ?_
          rintro e w4 ⟨rfl, hb⟩
          have HK4 := Lib.hid ((HK.out.next hb).skip HN.out hlt HP.out)
          clear hb
          go_wp2
          go_roundw
          case rel => exact ⟨a, b + 1, rfl, by go_num, HK4.out⟩
          case measure => simp [intOf]; omega
        | false =>
          rw [hp] at HC
          have HP : Hid (p (xs.getD b 0) = false) := Lib.hid (by rw [HY.out]; exact hp)
          go_wp2_with fail
          refine HC.out.mono ?_
          rintro e w4 ⟨rfl, hb⟩
          have HK4 := Lib.hid ((HK.out.next hb).keep HN.out hlt HP.out)
          rw [HY.out] at HK4
          obtain ⟨⟨u, hu⟩, hfz⟩ := (HK.out.next hb).slot (j := a) (by omega)
          have haz : (a : Int) < (n : Int) := by omega
          clear hb
          go_wp2
          go_roundw
          case rel => exact ⟨a + 1, b + 1, by go_num, by go_num, HK4.out⟩
          case measure => simp [intOf]; omega
      · obtain rfl : b = n := by omega
        have hcl : ∀ ty, (Builtin.clear_ #[23] ty #[.slice (some ⟨g, a, none⟩) (b - a) (c - a)]).run Tryd.prog wr = .ok (.tuple #[]) (wr.setCells g a (List.replicate (b - a) (.int .i64 0))) :=
          fun ty => Lib.run_clear_slice wr _ _ ty _ Tryd.underlying23 zero_int rfl rfl g a _ _ (by omega) (fun t ht => by
            obtain ⟨⟨u, hu⟩, _⟩ := HK.out.slot (j := a + t) (by omega)
            rw [hu]; rfl) (fun t ht => (HK.out.slot (j := a + t) (by omega)).2)
        have HD := Lib.hid (HK.out.done HN.out HCAP.out HB.out HG.out.2 (List.replicate (b - a) (.int .i64 0)))
        have hcz := HCAP.out
        go_wp2
        go_ret
        exact HD.out

end Go.Proofs.YtglboolijhekkaaDoor

namespace Go.Proofs.YtglboolijhekkaaDoor
open Go.RowKit

theorem filter_fewer {p q : Nat → Bool} (h : ∀ j, q j = true → p j = true) {i : Nat} : ∀ {l : List Nat}, i ∈ l → p i = true → q i = false → (l.filter q).length < (l.filter p).length
  | [], hi, _, _ => by cases hi
  | j :: r, hi, hp, hq => by
    have hle : ∀ l : List Nat, (l.filter q).length ≤ (l.filter p).length := fun l => by
      induction l with
      | nil => exact Nat.le_refl _
      | cons x r ih =>
        rw [List.filter_cons, List.filter_cons]
        by_cases hx : q x = true
        · rw [if_pos hx, if_pos (h x hx)]; simp; exact ih
        · rw [if_neg hx]
          split
          · simp; omega
          · exact ih
    rw [List.filter_cons, List.filter_cons]
    rcases List.mem_cons.1 hi with e | e
    · subst e
      rw [if_neg (by rw [hq]; simp), if_pos hp]
      have := hle r
      simp; omega
    · have := filter_fewer h e hp hq
      by_cases hx : q j = true
      · rw [if_pos hx, if_pos (h j hx)]; simp; exact this
      · rw [if_neg hx]
        split
        · simp; omega
        · exact this
theorem getD_set (l : Array Bool) (i k : Nat) (d : Bool) (hi : i < l.size) : (l.setIfInBounds i true).getD k d = (if k = i then true else l.getD k d) := by
  rw [Array.getD_eq_getD_getElem?, Array.getD_eq_getD_getElem?, Array.getElem?_setIfInBounds]
  by_cases h : i = k
  · subst h; simp [hi]
  · rw [if_neg h, if_neg (Ne.symm h)]
section
variable {P : Program} {ops : Array Oper} {Q : Exit → Act → World → Prop} {Inv : (Nat → Bool) → Act → World → Prop}
theorem wpAny_inv
    (hstep : ∀ (L : Nat → Bool) (i : Nat) (o : Oper) (a : Act) (w : World), ops[i]? = some o → L i = false → (∀ e ∈ o.after, Region.binds .any e = true → L e.on = true) → Inv L a w →
      ∀ K : Act → World → Prop, (∀ a w, Inv (fun k => k == i || L k) a w → K a w) → if Region.wanted o (yielded ops a.tmps) = true then Oper.wp P o a w K Q else K (a.put o.dst undef) w)
    (hend : ∀ (L : Nat → Bool) (a : Act) (w : World), (∀ i o, ops[i]? = some o → L i = false → ∃ e ∈ o.after, Region.binds .any e = true ∧ L e.on = false) → Inv L a w → Q .normal a w) :
    ∀ (fuel : Nat) (listed : Array Bool) (a : Act) (w : World), listed.size = ops.size → ((List.range ops.size).filter fun i => !listed.getD i true).length ≤ fuel → Inv (fun k => listed.getD k false) a w → wpAny P .any ops Q fuel listed a w := by
  have same : ∀ (listed : Array Bool) (i : Nat), i < listed.size → listed.getD i true = listed.getD i false := fun listed i hi => by
    unfold Array.getD
    rw [dif_pos hi, dif_pos hi]
  have fin : ∀ (listed : Array Bool) (a : Act) (w : World), listed.size = ops.size → Region.ready .any ops listed = [] → Inv (fun k => listed.getD k false) a w → Q .normal a w := by
    intro listed a w hsz hr hI
    refine hend _ a w (fun i o ho hL => ?_) hI
    have hi : i < ops.size := (Array.getElem?_eq_some_iff.1 ho).1
    unfold Region.ready at hr
    have h1 := List.filter_eq_nil_iff.1 hr i (List.mem_range.2 hi)
    rw [same listed i (by omega), ho] at h1
    have h2 : (!listed.getD i false) = true := by simpa using hL
    rw [h2, Bool.true_and] at h1
    simp only [Option.map_some, Option.getD_some] at h1
    rw [Array.all_eq_true'] at h1
    obtain ⟨e, he⟩ := Classical.not_forall.1 h1
    obtain ⟨he1, he2⟩ := Classical.not_imp.1 he
    refine ⟨e, he1, ?_⟩
    cases hb : Region.binds .any e with
    | false => rw [hb] at he2; simp at he2
    | true =>
      rw [hb] at he2
      exact ⟨rfl, by simpa using he2⟩
  intro fuel
  induction fuel with
  | zero =>
    intro listed a w hsz hf hI
    have hr : Region.ready .any ops listed = [] := by
      have h0 : ((List.range ops.size).filter fun i => !listed.getD i true) = [] := List.eq_nil_of_length_eq_zero (by omega)
      unfold Region.ready
      rw [List.filter_eq_nil_iff] at h0 ⊢
      intro i hi
      have := h0 i hi
      rw [Bool.not_eq_true] at this
      rw [this]
      simp
    exact ⟨hr, fin listed a w hsz hr hI⟩
  | succ fuel ih =>
    intro listed a w hsz hf hI
    refine ⟨fun hr => fin listed a w hsz hr hI, fun i hi => ?_⟩
    unfold Region.ready at hi
    rw [List.mem_filter, List.mem_range, Bool.and_eq_true] at hi
    obtain ⟨hil, hi1, hi2⟩ := hi
    obtain ⟨o, ho⟩ : ∃ o, ops[i]? = some o := ⟨_, Array.getElem?_eq_getElem hil⟩
    rw [ho] at hi2
    simp only [Option.map_some, Option.getD_some] at hi2
    rw [Array.all_eq_true'] at hi2
    refine wpOp_step ho fun K' hK => ?_
    refine hstep _ i o a w ho (by rw [same listed i (by omega)] at hi1; simpa using hi1) (fun e he hb => ?_) hI K' (fun a' w' hI' => hK a' w' ?_)
    · have := hi2 e he
      rw [hb] at this
      simpa using this
    · refine ih _ a' w' (by simpa using hsz) ?_ ?_
      · have hlt := filter_fewer (p := fun j => !listed.getD j true) (q := fun j => !(listed.setIfInBounds i true).getD j true) (i := i) (l := List.range ops.size) (fun j hj => by
          by_cases hji : j = i
          · subst hji
            exact hi1
          · rw [getD_set _ _ _ _ (by omega), if_neg hji] at hj
            exact hj) (List.mem_range.2 hil) hi1 (by rw [getD_set _ _ _ _ (by omega), if_pos rfl]; rfl)
        omega
      · have e : (fun k => (listed.setIfInBounds i true).getD k false) = fun k => k == i || listed.getD k false := by
          funext k
          rw [getD_set _ _ _ _ (by omega)]
          by_cases hki : k = i
          · subst hki; simp
          · simp [hki]
        rw [e]; exact hI'
/-- the region, by what holds of the operations that have come up -/
theorem wp_region_inv {id : Nat} {a : Act} {w : World} (hm : P.follows .mixedOrders = true) (h0 : Inv (fun _ => false) a { w with drawn := w.drawn + 1 })
    (hstep : ∀ (L : Nat → Bool) (i : Nat) (o : Oper) (a : Act) (w : World), ops[i]? = some o → L i = false → (∀ e ∈ o.after, Region.binds .any e = true → L e.on = true) → Inv L a w →
      ∀ K : Act → World → Prop, (∀ a w, Inv (fun k => k == i || L k) a w → K a w) → if Region.wanted o (yielded ops a.tmps) = true then Oper.wp P o a w K Q else K (a.put o.dst undef) w)
    (hend : ∀ (L : Nat → Bool) (a : Act) (w : World), (∀ i o, ops[i]? = some o → L i = false → ∃ e ∈ o.after, Region.binds .any e = true ∧ L e.on = false) → Inv L a w → Q .normal a w) : (Code.region id ops true).wp P Q a w := by
  refine wp_region_any hm (wpAny_inv hstep hend _ _ a _ (by simp) ?_ ?_)
  · refine Nat.le_trans (List.length_filter_le _ _) ?_
    simp
  · have e : (fun k => (Array.replicate ops.size false).getD k false) = fun _ => false := by
      funext k
      unfold Array.getD
      split
      · simp
      · rfl
    rw [e]; exact h0
end

end Go.Proofs.YtglboolijhekkaaDoor

namespace Go.Proofs.YtglboolijhekkaaDoor
open Go.RowKit

theorem underL_yes {g : Gr} {k : Nat} (h : rightG g = true) (hk : k < g.length) : underL g (k : Int) = numsF (overG g k) g.length := by
  unfold underL
  rw [if_pos ⟨h, by omega, by omega⟩, Int.toNat_natCast]
theorem aboveL_yes {g : Gr} {k : Nat} (h : rightG g = true) (hk : k < g.length) : aboveL g (k : Int) = numsF (fun m => overG g m k) (k + 1) := by
  unfold aboveL
  rw [if_pos ⟨h, by omega, by omega⟩, Int.toNat_natCast]
theorem underL_no {g : Gr} {a : Int} (h : thereB g a = false) : underL g a = [] := by
  unfold underL
  rw [if_neg (fun h' => by rw [thereB_is.2 h'] at h; cases h)]
theorem aboveL_no {g : Gr} {a : Int} (h : thereB g a = false) : aboveL g a = [] := by
  unfold aboveL
  rw [if_neg (fun h' => by rw [thereB_is.2 h'] at h; cases h)]
/-- the marks of what is under a, as far as i -/
def undM (g : Gr) (a i : Nat) : Nat → Bool := fun j => decide (j < i) && overG g a j
theorem undM_start (g : Gr) (a : Nat) : ∀ k, mset (fun _ => false) a true k = undM g a (a + 1) k := by
  intro k
  unfold undM
  by_cases h : k = a
  · subst h; rw [mset_same, over_self, decide_eq_true (by omega)]; rfl
  · rw [mset_other _ _ h]
    by_cases h' : k < a + 1
    · have : overG g a k = false := by
        cases ho : overG g a k with
        | false => rfl
        | true => exact absurd (over_le ho) (by omega)
      rw [this, Bool.and_false]
    · rw [decide_eq_false h', Bool.false_and]
theorem undM_step {g : Gr} (hg : RightG g) {a i : Nat} (hi : i < g.length) (ha : a < i) : ∀ k, mset (undM g a i) i (undM g a i (par g i)) k = undM g a (i + 1) k := by
  intro k
  have hp := (hg.up i (by omega) hi).2
  have e : undM g a i (par g i) = overG g a i := by
    unfold undM
    rw [decide_eq_true hp, Bool.true_and, over_up hg hi ha]
  by_cases h : k = i
  · subst h; rw [mset_same, e]; unfold undM; rw [decide_eq_true (by omega), Bool.true_and]
  · rw [mset_other _ _ h]
    unfold undM
    by_cases h' : k < i
    · rw [decide_eq_true h', decide_eq_true (by omega)]
    · rw [decide_eq_false h', decide_eq_false (by omega)]

set_option maxRecDepth 100000 in
set_option maxHeartbeats 4000000 in
theorem under_any (A : Option Addr) (n c : Nat) (g : Gr) (a : Int) (w : World) (h : GAsk w A n c g) (_ : I64 a) :
    Calls Tryd.prog 13 #[.slice A n c, .int .i64 a] w (IPost (underL g a) w) := by
  have HN : Hid (n ≤ maxLen) := Lib.hid (ml300 h.few)
  have HR := Lib.hid h.reads
  have HL := Lib.hid h.reads.len
  clear h
  cases ht : thereB g a with
  | false =>
    rw [underL_no ht]
    have HT := Lib.hid ht
    clear ht
    go_enter Tryd.func13, Tryd.ntmps13
    go_wp2_with fail
    refine (there_b HR.out HN.out HT.out).mono ?_
    rintro e w1 ⟨rfl, hb⟩
    have HB := Lib.hid hb
    clear hb
    go_wp2
    go_ret
    exact ipost_nil HB.out
  | true =>
    obtain ⟨hg, ha0, han⟩ := thereB_is.1 ht
    have HT := Lib.hid ht
    have HG := Lib.hid (rightG_is hg)
    obtain ⟨k0, rfl⟩ : ∃ k0 : Nat, a = (k0 : Int) := ⟨a.toNat, by omega⟩
    have hk0 : k0 < n := by have := HL.out; omega
    have hn256 : n ≤ 256 := by have := HG.out.few; have := HL.out; omega
    have hk256 : k0 < 256 := by omega
    have HRES : Hid (underL g (k0 : Int) = numsF (overG g k0) n) := Lib.hid (by rw [underL_yes hg (by have := HL.out; omega), HL.out])
    clear ht hg ha0 han
    go_enter Tryd.func13, Tryd.ntmps13
    go_wp2_with fail
    refine (there_b HR.out HN.out HT.out).mono ?_
    rintro e w1 ⟨rfl, hb⟩
    have HB := Lib.hid hb
    have HR1 := Lib.hid (HR.out.next hb)
    clear hb
    go_wp2_with (with_reducible refine wpList_alloc_marks rfl rfl ?_; intro w2 hm; refine Hid.out ?_)
    refine Lib.hid ?_
    have hc := hm.cell hk256
    have hf := hm.frozen k0
    have HM2 : Hid (Marks w1 (undM g k0 (k0 + 1)) (w2.setCell ⟨w1.heap.size, k0, none⟩ (.bool true))) := Lib.hid ((hm.set true).ext (fun j _ => undM_start g k0 j))
    clear hm
    go_wp2
    clear hc hf
    go_loopw [6] (fun i wr => ∃ k : Nat, k0 < k ∧ k ≤ n ∧ i = .int .i64 k ∧ Marks w1 (undM g k0 k) wr) (fun i _ => n - (intOf i).toNat)
    case atStart => exact ⟨k0 + 1, by omega, by omega, by go_num, HM2.out⟩
    case round =>
      obtain ⟨k, hk0k, hk, rfl, hm⟩ := hrel
      by_cases hlt : k < n
      · have HMk := Lib.hid hm
        have HRk := Lib.hid (HR1.out.next hm.bel)
        have hkl : k < g.length := by have := HL.out; omega
        have hup := HG.out.up k (by omega) hkl
        have HST := Lib.hid (undM_step HG.out hkl hk0k)
        obtain ⟨b, off, rfl, hbw, _, hc1, _, _⟩ := HRk.out.one hlt
        obtain ⟨p, hp⟩ : ∃ p, par g k = p := ⟨_, rfl⟩
        have hu : gu g k = (p : Int) := by unfold par at hp; omega
        rw [hu] at hc1
        rw [hp] at hup HST
        have hpk := hup.2
        have hp256 : p < 256 := by omega
        have hk256' : k < 256 := by omega
        have hcp := hm.cell hp256
        have hck := hm.cell hk256'
        have hfk := hm.frozen k
        have HM3 : Hid (Marks w1 (undM g k0 (k + 1)) (wr.setCell ⟨w1.heap.size, k, none⟩ (.bool (undM g k0 k p)))) := Lib.hid ((hm.set _).ext (fun j _ => HST.out j))
        generalize undM g k0 k p = bp at *
        clear hu hp hup hm hkl HST
        go_wp2
        clear hcp hck hfk hc1
        go_roundw
        case rel => exact ⟨k + 1, by omega, by omega, by go_num, HM3.out⟩
        case measure => simp [intOf]; omega
      · have hkn : k = n := by omega
        subst hkn
        have HM := Lib.hid hm
        have HBM := Lib.hid (HB.out.trans (hm.bel.mono HB.out.size))
        have e1 : Hid (numsF (undM g k0 k) 256 = underL g (k0 : Int)) := Lib.hid (by rw [HRES.out]; exact numsF_cut hn256)
        clear hm
        go_wp2_with (with_reducible refine wpList_load_marks rfl _ rfl HM.out rfl ?_; refine Hid.out ?_)
        refine Lib.hid ?_
        go_wp2_with fail
        refine (marksList_l e1.out).mono ?_
        rintro e w5 ⟨⟨A5, c5, rfl, hri, hnil, hcap⟩, hb5⟩
        have HX := Lib.hid (ipost_mk hri hnil hcap (HBM.out.trans (hb5.mono HBM.out.size)))
        clear hri hnil hcap hb5
        go_wp2
        go_ret
        exact HX.out

/-- the head of a set of numbers: m, and then only higher ones -/
theorem numsF_cons {p q : Nat → Bool} {m : Nat} : ∀ {n : Nat}, m < n → (∀ k, k < n → p k = (k == m || q k)) → (∀ k, k < n → q k = true → m < k) → numsF p n = (m : Int) :: numsF q n := by
  intro n
  induction n with
  | zero => intro h; omega
  | succ n ih =>
    intro hm hp hq
    rw [numsF_succ p n, numsF_succ q n, hp n (by omega)]
    by_cases h : n = m
    · subst h
      have e0 : ∀ r : Nat → Bool, (∀ k, k < n → r k = false) → numsF r n = [] := fun r hr => by
        unfold numsF
        rw [List.filter_eq_nil_iff.2 (fun x hx => by rw [hr x (List.mem_range.1 hx)]; simp)]
        rfl
      have hqk : ∀ k, k < n + 1 → q k = false := fun k hk => by
        cases hqk : q k with
        | false => rfl
        | true => exact absurd (hq k hk hqk) (by omega)
      rw [e0 p (fun k hk => by rw [hp k (by omega), hqk k (by omega)]; simp; omega), e0 q (fun k hk => hqk k (by omega)), hqk n (by omega)]
      simp
    · rw [ih (by omega) (fun k hk => hp k (by omega)) (fun k hk => hq k (by omega))]
      have : (n == m) = false := by simpa using h
      rw [this, Bool.false_or]
      rfl
/-- what is above a, beyond m -/
def upL (g : Gr) (a : Nat) (m : Int) : List Int := numsF (fun k => decide (m < k) && overG g k a) (a + 1)
theorem upL_start (g : Gr) (a : Nat) : upL g a (a : Int) = [] := by
  unfold upL numsF
  rw [List.filter_eq_nil_iff.2 (fun x hx => by have := List.mem_range.1 hx; rw [decide_eq_false (by omega)]; simp)]
  rfl
theorem upL_end (g : Gr) (a : Nat) : upL g a (-1) = numsF (fun m => overG g m a) (a + 1) := by
  unfold upL
  exact numsF_ext (fun k _ => by rw [decide_eq_true (by omega), Bool.true_and])
theorem upL_step {g : Gr} (hg : RightG g) {a m : Nat} (ha : a < g.length) (h : overG g m a = true) : upL g a (gu g m) = (m : Int) :: upL g a (m : Int) := by
  have hma := over_le h
  unfold upL
  refine numsF_cons (by omega) (fun k hk => ?_) (fun k _ hq => ?_)
  · rcases Nat.lt_trichotomy k m with hkm | hkm | hkm
    · have h1 : (k == m) = false := by simp; omega
      have h2 : decide ((m : Int) < (k : Int)) = false := by simp; omega
      rw [h1, h2, Bool.false_and, Bool.or_false]
      have hpu := (hg.up m (by omega) (by omega)).1
      by_cases hku : gu g m < (k : Int)
      · cases ho : overG g k a with
        | false => rw [Bool.and_false]
        | true =>
          have h3 := over_chain hg a ha ho h (by omega)
          rw [over_up hg (by omega) hkm] at h3
          have := over_le h3
          unfold par at this
          omega
      · rw [decide_eq_false hku, Bool.false_and]
    · subst hkm
      have hup : gu g k < (k : Int) := by
        rcases Nat.eq_zero_or_pos k with h0 | h0
        · subst h0; have := hg.top.2; omega
        · have := hg.up k h0 (by omega); unfold par at this; omega
      rw [decide_eq_true hup, h]; simp
    · have h1 : (k == m) = false := by simp; omega
      have h2 : decide ((m : Int) < (k : Int)) = true := by simp; omega
      have hup : gu g m < (k : Int) := by
        rcases Nat.eq_zero_or_pos m with h0 | h0
        · subst h0; have := hg.top.2; omega
        · have := hg.up m h0 (by omega); unfold par at this; omega
      rw [h1, h2, decide_eq_true hup]; simp
  · rw [Bool.and_eq_true, decide_eq_true_eq] at hq
    omega
theorem over_parent {g : Gr} (hg : RightG g) {a m : Nat} (ha : a < g.length) (hm : 0 < m) (h : overG g m a = true) : overG g (par g m) a = true := by
  have hma := over_le h
  have h2 : overG g (par g m) m = true := by
    rw [over_up hg (by omega) (hg.up m hm (by omega)).2]
    exact over_self
  exact over_trans hg a ha h h2


end Go.Proofs.YtglboolijhekkaaDoor

namespace Go.Proofs.YtglboolijhekkaaDoor
open Go.RowKit

/-- an array of five in a new block, behind a world -/
structure Arr5 (W : World) (a0 a1 a2 a3 a4 : Int) (wr : World) : Prop where
  bel : Below W.heap.size W wr
  c0 : wr.cell? ⟨W.heap.size, 0, none⟩ = some (.int .i64 a0)
  c1 : wr.cell? ⟨W.heap.size, 1, none⟩ = some (.int .i64 a1)
  c2 : wr.cell? ⟨W.heap.size, 2, none⟩ = some (.int .i64 a2)
  c3 : wr.cell? ⟨W.heap.size, 3, none⟩ = some (.int .i64 a3)
  c4 : wr.cell? ⟨W.heap.size, 4, none⟩ = some (.int .i64 a4)
  lt : W.heap.size < wr.heap.size
theorem Arr5.next {W wr w' : World} {a0 a1 a2 a3 a4 : Int} (h : Arr5 W a0 a1 a2 a3 a4 wr) (hb : Below wr.heap.size wr w') : Arr5 W a0 a1 a2 a3 a4 w' :=
  ⟨h.bel.trans (hb.mono h.bel.size), (hb.cell (p := ⟨W.heap.size, 0, none⟩) h.lt).trans h.c0, (hb.cell (p := ⟨W.heap.size, 1, none⟩) h.lt).trans h.c1, (hb.cell (p := ⟨W.heap.size, 2, none⟩) h.lt).trans h.c2, (hb.cell (p := ⟨W.heap.size, 3, none⟩) h.lt).trans h.c3, (hb.cell (p := ⟨W.heap.size, 4, none⟩) h.lt).trans h.c4, Nat.lt_of_lt_of_le h.lt hb.size⟩
theorem arr5_put (W : World) (a0 a1 a2 a3 a4 : Int) : Arr5 W a0 a1 a2 a3 a4 (W.alloc (.cells #[.int .i64 a0, .int .i64 a1, .int .i64 a2, .int .i64 a3, .int .i64 a4] 36)) := by
  have h0 := heap_alloc_new W (.cells #[.int .i64 a0, .int .i64 a1, .int .i64 a2, .int .i64 a3, .int .i64 a4] 36)
  have hc := fun j => cell_of_row _ _ j _ _ (0, 0) h0
  exact ⟨(Below.refl _ _).alloc (Nat.le_refl _) _, hc 0, hc 1, hc 2, hc 3, hc 4, (Array.getElem?_eq_some_iff.1 h0).1⟩
theorem Arr5.drewN {W wr : World} {a0 a1 a2 a3 a4 : Int} (h : Arr5 W a0 a1 a2 a3 a4 wr) (q : Nat) : Arr5 W a0 a1 a2 a3 a4 (wr.drewN q) := h.next (bel_drew wr q)

end Go.Proofs.YtglboolijhekkaaDoor

namespace Go.Proofs.YtglboolijhekkaaDoor
open Go.RowKit

/-- how many of the first i numbers are things of this kind -/
def cntL (g : Gr) (l : List Int) (c : Int) (i : Nat) : Nat := ((l.take i).filter fun x => decide (x < (g.length : Int)) && gk g x.toNat == c).length
theorem cntL_succ (g : Gr) (l : List Int) (c : Int) {i : Nat} (hi : i < l.length) : cntL g l c (i + 1) = cntL g l c i + (if l.getD i 0 < (g.length : Int) ∧ gk g (l.getD i 0).toNat = c then 1 else 0) := by
  unfold cntL
  rw [List.take_succ_eq_append_getElem hi, List.filter_append, List.length_append]
  have e : l.getD i 0 = l[i] := by rw [List.getD, List.getElem?_eq_getElem hi]; rfl
  rw [e]
  congr 1
  by_cases h : l[i] < (g.length : Int) ∧ gk g l[i].toNat = c
  · rw [if_pos h]; simp [h.1, h.2]
  · rw [if_neg h]
    rw [List.filter_eq_nil_iff.2]
    · rfl
    · intro x hx
      simp at hx
      subst hx
      intro h'
      rw [Bool.and_eq_true, beq_iff_eq, decide_eq_true_eq] at h'
      exact h h'
theorem cntL_le (g : Gr) (l : List Int) (c : Int) (i : Nat) : cntL g l c i ≤ i := by
  unfold cntL
  have := List.length_filter_le (fun x => decide (x < (g.length : Int)) && gk g x.toNat == c) (l.take i)
  have h2 := List.length_take_le i l
  omega
/-- a set, as the numbers that are in it -/
theorem set_nums {l : List Int} (h : rightB l = true) : l = numsF (fun k => l.contains (k : Int)) 256 := by
  refine right_ext h (numsF_right _ (Nat.le_refl _)) fun n => ?_
  rw [mem_numsF]
  constructor
  · intro hn
    have := right_mem h n hn
    exact ⟨n.toNat, by omega, by rw [List.contains_iff_mem, Int.toNat_of_nonneg this.1]; exact hn, by omega⟩
  · rintro ⟨k, _, hk, rfl⟩
    rwa [List.contains_iff_mem] at hk
/-- counted along a set, or along the things: the same -/
theorem cntL_all {g : Gr} {l : List Int} (h : rightB l = true) (hg : g.length ≤ 256) (c : Int) : cntL g l c l.length = cntK g l c g.length := by
  have key : ∀ m, g.length ≤ m → ((numsF (fun k => l.contains (k : Int)) m).filter fun x => decide (x < (g.length : Int)) && gk g x.toNat == c).length = cntK g l c g.length := by
    intro m hm
    unfold numsF cntK
    rw [List.filter_map, List.length_map, List.filter_filter]
    have e : ∀ m, g.length ≤ m → ((List.range m).filter fun k : Nat => (decide ((k : Int) < (g.length : Int)) && gk g ((k : Int)).toNat == c) && l.contains (k : Int)) = (List.range g.length).filter fun k : Nat => hasB l (k : Int) && gk g k == c := by
      intro m hm
      induction m with
      | zero =>
        have : g.length = 0 := by omega
        rw [this]; rfl
      | succ m ih =>
        by_cases hl : g.length = m + 1
        · rw [hl]
          apply List.filter_congr
          intro k hk
          have := List.mem_range.1 hk
          rw [decide_eq_true (by omega), Int.toNat_natCast]
          unfold hasB
          rw [h, Bool.true_and, Bool.true_and, Bool.and_comm]
        · rw [List.range_succ, List.filter_append, ih (by omega)]
          rw [show List.filter (fun k : Nat => (decide ((k : Int) < (g.length : Int)) && gk g ((k : Int)).toNat == c) && l.contains (k : Int)) [m] = [] from by
            rw [List.filter_eq_nil_iff]
            intro x hx
            simp at hx
            subst hx
            rw [decide_eq_false (by omega)]
            simp]
          rw [List.append_nil]
    exact congrArg List.length (e m hm)
  unfold cntL
  rw [List.take_length]
  conv => lhs; rw [set_nums h]
  exact key 256 hg
theorem kVal_zero {g : Gr} {l : List Int} (h : rightG g = false ∨ rightB l = false) : kVal g l = .agg #[.int .i64 0, .int .i64 0, .int .i64 0, .int .i64 0, .int .i64 0] := by
  have e : ∀ c, kc g l c = 0 := fun c => by
    unfold kc
    rcases h with h | h
    · rw [h]; rfl
    · split
      · have : cntK g l c g.length = 0 := by
          unfold cntK
          rw [List.filter_eq_nil_iff.2 (fun x _ => by unfold hasB; rw [h]; simp)]
          rfl
        rw [this]; rfl
      · rfl
  unfold kVal
  rw [e, e, e, e, e]

/-- five counts as an array's cells, behind the first i numbers -/
def lArr (g : Gr) (l : List Int) (i : Nat) : Array Value := #[.int .i64 (cntL g l 0 i), .int .i64 (cntL g l 1 i), .int .i64 (cntL g l 2 i), .int .i64 (cntL g l 3 i), .int .i64 (cntL g l 4 i)]
/-- the two arrays -/
structure LRel (g : Gr) (l : List Int) (w : World) (i : Nat) (wr : World) : Prop where
  res : wr.heap[w.heap.size]? = some (.cells #[.int .i64 0, .int .i64 0, .int .i64 0, .int .i64 0, .int .i64 0] 36 (0, 0))
  cnt : wr.heap[w.heap.size + 1]? = some (.cells (lArr g l i) 36 (0, 0))
  bel : Below w.heap.size w wr
theorem lArr_zero (g : Gr) (l : List Int) : lArr g l 0 = #[.int .i64 0, .int .i64 0, .int .i64 0, .int .i64 0, .int .i64 0] := by simp [lArr, cntL]
theorem lrel_made (g : Gr) (l : List Int) (w : World) : LRel g l w 0 ((w.alloc (.cells #[.int .i64 0, .int .i64 0, .int .i64 0, .int .i64 0, .int .i64 0] 36)).alloc (.cells #[.int .i64 0, .int .i64 0, .int .i64 0, .int .i64 0, .int .i64 0] 36)) := by
  refine ⟨?_, ?_, ((Below.refl _ _).alloc (Nat.le_refl _) _).alloc (by simp) _⟩
  · rw [Below.heap_alloc _ _ _ (by simp)]; exact heap_alloc_new w _
  · rw [lArr_zero]
    have := heap_alloc_new (w.alloc (.cells #[.int .i64 0, .int .i64 0, .int .i64 0, .int .i64 0, .int .i64 0] 36)) (.cells #[.int .i64 0, .int .i64 0, .int .i64 0, .int .i64 0, .int .i64 0] 36)
    simpa using this
theorem LRel.lt {g : Gr} {l : List Int} {w wr : World} {i : Nat} (h : LRel g l w i wr) : w.heap.size + 1 < wr.heap.size := (Array.getElem?_eq_some_iff.1 h.cnt).1
theorem LRel.next {g : Gr} {l : List Int} {w wr w' : World} {i : Nat} (h : LRel g l w i wr) (hb : Below wr.heap.size wr w') : LRel g l w i w' :=
  ⟨(hb.block _ (by have := h.lt; omega)).trans h.res, (hb.block _ h.lt).trans h.cnt, h.bel.trans (hb.mono h.bel.size)⟩
theorem LRel.no {g : Gr} {l : List Int} {w wr : World} {i : Nat} (h : LRel g l w i wr) (hi : i < l.length) (hh : ¬ l.getD i 0 < (g.length : Int)) : LRel g l w (i + 1) wr := by
  have e : lArr g l (i + 1) = lArr g l i := by
    unfold lArr
    rw [cntL_succ g l 0 hi, cntL_succ g l 1 hi, cntL_succ g l 2 hi, cntL_succ g l 3 hi, cntL_succ g l 4 hi, if_neg (fun h' => hh h'.1), if_neg (fun h' => hh h'.1), if_neg (fun h' => hh h'.1), if_neg (fun h' => hh h'.1), if_neg (fun h' => hh h'.1)]
    rfl
  exact ⟨h.res, by rw [e]; exact h.cnt, h.bel⟩
theorem LRel.yes {g : Gr} {l : List Int} {w wr : World} {i q : Nat} (h : LRel g l w i wr) (hi : i < l.length) (hh : l.getD i 0 < (g.length : Int)) (hq : gk g (l.getD i 0).toNat = q) (h5 : q < 5) : LRel g l w (i + 1) (wr.setCell ⟨w.heap.size + 1, q, none⟩ (.int .i64 ((cntL g l q i : Int) + 1))) := by
  have e : (lArr g l i).setIfInBounds q (.int .i64 ((cntL g l q i : Int) + 1)) = lArr g l (i + 1) := by
    unfold lArr
    rw [cntL_succ g l 0 hi, cntL_succ g l 1 hi, cntL_succ g l 2 hi, cntL_succ g l 3 hi, cntL_succ g l 4 hi]
    rw [hq]
    rcases (show q = 0 ∨ q = 1 ∨ q = 2 ∨ q = 3 ∨ q = 4 by omega) with rfl | rfl | rfl | rfl | rfl <;> simp only [hh, true_and] <;> simp
  refine ⟨?_, ?_, h.bel.setCell (by simp) _⟩
  · rw [heap_setCell_other wr _ _ _ (by show w.heap.size ≠ w.heap.size + 1; omega)]; exact h.res
  · rw [← e]; exact heap_setCell_same wr _ _ _ _ _ h.cnt
theorem LRel.cell {g : Gr} {l : List Int} {w wr : World} {i q : Nat} (h : LRel g l w i wr) (h5 : q < 5) : wr.cell? ⟨w.heap.size + 1, q, none⟩ = some (.int .i64 (cntL g l q i)) := by
  rw [cell_of_row wr _ q _ _ (0, 0) h.cnt]
  rcases (show q = 0 ∨ q = 1 ∨ q = 2 ∨ q = 3 ∨ q = 4 by omega) with rfl | rfl | rfl | rfl | rfl <;> rfl
theorem LRel.free {g : Gr} {l : List Int} {w wr : World} {i q : Nat} (h : LRel g l w i wr) : wr.frozen? ⟨w.heap.size + 1, q, none⟩ = false := frozen_of_row wr _ q _ _ h.cnt

set_option maxRecDepth 100000 in
set_option maxHeartbeats 4000000 in
theorem kinds_any (A : Option Addr) (n c : Nat) (A2 : Option Addr) (n2 c2 : Nat) (g : Gr) (l : List Int) (w : World) (h : GAsk w A n c g) (h2 : LAsk w A2 n2 c2 l) :
    Calls Tryd.prog 14 #[.slice A n c, .slice A2 n2 c2] w fun e w' => e = .returned (kVal g l) ∧ Below w.heap.size w w' := by
  have HN : Hid (n ≤ maxLen) := Lib.hid (ml300 h.few)
  have HN2 : Hid (n2 ≤ maxLen) := Lib.hid (ml300 h2.few)
  have hn := h.few
  have hn2 := h2.few
  have HA := Lib.hid (lrel_made g l w)
  have HR := Lib.hid (h.reads.next HA.out.bel)
  have HI := Lib.hid (h2.reads.next HA.out.bel)
  have HR0 := Lib.hid h.reads
  have HI0 := Lib.hid h2.reads
  have HL := Lib.hid h.reads.len
  have HL2 := Lib.hid h2.reads.1
  clear h h2
  cases hg : rightG g with
  | false =>
    rw [kVal_zero (.inl hg)]
    have HG := Lib.hid hg
    clear hg
    go_enter Tryd.func14, Tryd.ntmps14
    go_wp2_with fail
    refine (graphRight_b HR.out HN.out HG.out).mono ?_
    rintro e w1 ⟨rfl, hb⟩
    have HA1 := Lib.hid (HA.out.next hb)
    have hc0 : ∀ j, w1.cell? ⟨w.heap.size, j, none⟩ = _ := fun j => cell_of_row w1 _ j _ _ (0, 0) HA1.out.res
    have hc1 : ∀ j, w1.cell? ⟨w.heap.size + 1, j, none⟩ = _ := fun j => cell_of_row w1 _ j _ _ (0, 0) HA1.out.cnt
    rw [lArr_zero] at hc1
    have hf0 : ∀ j, w1.frozen? ⟨w.heap.size, j, none⟩ = false := fun j => frozen_of_row w1 _ j _ _ HA1.out.res
    have HB := Lib.hid HA1.out.bel
    clear hb
    go_wp2
    refine bodyPost_ret (v := .agg #[.int .i64 0, .int .i64 0, .int .i64 0, .int .i64 0, .int .i64 0]) (by simp [results, Tryd.results14, go_sem, hc0]) rfl ⟨rfl, ?_⟩
    exact ((((HB.out.setCell (Nat.le_refl _) _).setCell (Nat.le_refl _) _).setCell (Nat.le_refl _) _).setCell (Nat.le_refl _) _).setCell (Nat.le_refl _) _
  | true =>
    have HGR := Lib.hid (rightG_is hg)
    have HG := Lib.hid hg
    clear hg
    have hn256 : n ≤ 256 := by have := HGR.out.few; have := HL.out; omega
    cases hs : rightB l with
    | false =>
      rw [kVal_zero (.inr hs)]
      have HS := Lib.hid hs
      clear hs
      go_enter Tryd.func14, Tryd.ntmps14
      go_wp2_with fail
      refine (graphRight_b HR.out HN.out HG.out).mono ?_
      rintro e w1 ⟨rfl, hb⟩
      have HA1 := Lib.hid (HA.out.next hb)
      have HI1 := Lib.hid (HI.out.next hb)
      clear hb
      go_wp2_with fail
      refine (s_isSet HI1.out HN2.out HS.out).mono ?_
      rintro e w2 ⟨rfl, hb⟩
      have HA2 := Lib.hid (HA1.out.next hb)
      have hc0 : ∀ j, w2.cell? ⟨w.heap.size, j, none⟩ = _ := fun j => cell_of_row w2 _ j _ _ (0, 0) HA2.out.res
      have hc1 : ∀ j, w2.cell? ⟨w.heap.size + 1, j, none⟩ = _ := fun j => cell_of_row w2 _ j _ _ (0, 0) HA2.out.cnt
      rw [lArr_zero] at hc1
      have hf0 : ∀ j, w2.frozen? ⟨w.heap.size, j, none⟩ = false := fun j => frozen_of_row w2 _ j _ _ HA2.out.res
      have HB := Lib.hid HA2.out.bel
      clear hb
      go_wp2
      refine bodyPost_ret (v := .agg #[.int .i64 0, .int .i64 0, .int .i64 0, .int .i64 0, .int .i64 0]) (by simp [results, Tryd.results14, go_sem, hc0]) rfl ⟨rfl, ?_⟩
      exact ((((HB.out.setCell (Nat.le_refl _) _).setCell (Nat.le_refl _) _).setCell (Nat.le_refl _) _).setCell (Nat.le_refl _) _).setCell (Nat.le_refl _) _
    | true =>
      have HS := Lib.hid hs
      clear hs
      go_enter Tryd.func14, Tryd.ntmps14
      go_wp2_with fail
      refine (graphRight_b HR.out HN.out HG.out).mono ?_
      rintro e w1 ⟨rfl, hb⟩
      have HA1 := Lib.hid (HA.out.next hb)
      have HR1 := Lib.hid (HR.out.next hb)
      have HI1 := Lib.hid (HI.out.next hb)
      clear hb
      go_wp2_with fail
      refine (s_isSet HI1.out HN2.out HS.out).mono ?_
      rintro e w2 ⟨rfl, hb⟩
      have HA2 := Lib.hid (HA1.out.next hb)
      have HRB : Hid (∀ wr, Below w.heap.size w wr → RG wr w.heap.size A n g ∧ RI wr w.heap.size A2 n2 l) := Lib.hid (fun wr hb' => ⟨HR0.out.below hb', HI0.out.below hb'⟩)
      clear hb
      go_wp2
      go_loopw [19] (fun i wr => ∃ k : Nat, k ≤ n2 ∧ i = .int .i64 k ∧ LRel g l w k wr) (fun i _ => n2 - (intOf i).toNat)
      case atStart => exact ⟨0, Nat.zero_le _, rfl, HA2.out⟩
      case round =>
        obtain ⟨k, hk, rfl, hrel⟩ := hrel
        have HK := Lib.hid hrel
        clear hrel
        by_cases hlt : k < n2
        · obtain ⟨hRk, hIk⟩ := HRB.out wr HK.out.bel
          have HRk := Lib.hid hRk
          have HKL : Hid (k < l.length) := Lib.hid (by rw [HL2.out]; exact hlt)
          obtain ⟨b, off, rfl, _, hcl⟩ := hIk.one hlt
          have hxr := right_mem HS.out (l.getD k 0) (by have := HKL.out; simp [List.getD, this])
          obtain ⟨x, hx⟩ : ∃ x : Nat, l.getD k 0 = (x : Int) := ⟨(l.getD k 0).toNat, by omega⟩
          have HX := Lib.hid hx
          rw [hx] at hcl hxr
          clear hx hRk hIk
          have hx255 : x ≤ 255 := by omega
          clear hxr
          by_cases hxn : x < n
          · obtain ⟨b2, off2, rfl, _, hc0, _, _, _⟩ := HRk.out.one hxn
            have hkn := HGR.out.kinds (k := x) (by rw [HL.out]; exact hxn)
            obtain ⟨kd, hkd⟩ : ∃ kd, gk g x = kd := ⟨_, rfl⟩
            rw [hkd] at hc0 hkn
            have HQ : Hid (l.getD k 0 < (g.length : Int) ∧ gk g (l.getD k 0).toNat = kd) := Lib.hid (by rw [HX.out, Int.toNat_natCast, HL.out]; exact ⟨by omega, hkd⟩)
            clear hkd
            rcases (show kd = 0 ∨ kd = 1 ∨ kd = 2 ∨ kd = 3 ∨ kd = 4 by omega) with h | h | h | h | h
            · subst h
              have hcq := HK.out.cell (q := 0) (by omega)
              have hfq := HK.out.free (q := 0)
              have H4 := Lib.hid (HK.out.yes HKL.out HQ.out.1 (q := 0) HQ.out.2 (by omega))
              have hle := cntL_le g l (((0 : Nat) : Int)) k
              obtain ⟨y, hy⟩ : ∃ y, cntL g l (((0 : Nat) : Int)) k = y := ⟨_, rfl⟩
              rw [hy] at hcq hle H4
              clear hy
              have hy300 : y ≤ 300 := by omega
              go_wp2
              go_roundw
              case rel => exact ⟨k + 1, by omega, by go_num, H4.out⟩
              case measure => simp [intOf]; omega
            · subst h
              have hcq := HK.out.cell (q := 1) (by omega)
              have hfq := HK.out.free (q := 1)
              have H4 := Lib.hid (HK.out.yes HKL.out HQ.out.1 (q := 1) HQ.out.2 (by omega))
              have hle := cntL_le g l (((1 : Nat) : Int)) k
              obtain ⟨y, hy⟩ : ∃ y, cntL g l (((1 : Nat) : Int)) k = y := ⟨_, rfl⟩
              rw [hy] at hcq hle H4
              clear hy
              have hy300 : y ≤ 300 := by omega
              go_wp2
              go_roundw
              case rel => exact ⟨k + 1, by omega, by go_num, H4.out⟩
              case measure => simp [intOf]; omega
            · subst h
              have hcq := HK.out.cell (q := 2) (by omega)
              have hfq := HK.out.free (q := 2)
              have H4 := Lib.hid (HK.out.yes HKL.out HQ.out.1 (q := 2) HQ.out.2 (by omega))
              have hle := cntL_le g l (((2 : Nat) : Int)) k
              obtain ⟨y, hy⟩ : ∃ y, cntL g l (((2 : Nat) : Int)) k = y := ⟨_, rfl⟩
              rw [hy] at hcq hle H4
              clear hy
              have hy300 : y ≤ 300 := by omega
              go_wp2
              go_roundw
              case rel => exact ⟨k + 1, by omega, by go_num, H4.out⟩
              case measure => simp [intOf]; omega
            · subst h
              have hcq := HK.out.cell (q := 3) (by omega)
              have hfq := HK.out.free (q := 3)
              have H4 := Lib.hid (HK.out.yes HKL.out HQ.out.1 (q := 3) HQ.out.2 (by omega))
              have hle := cntL_le g l (((3 : Nat) : Int)) k
              obtain ⟨y, hy⟩ : ∃ y, cntL g l (((3 : Nat) : Int)) k = y := ⟨_, rfl⟩
              rw [hy] at hcq hle H4
              clear hy
              have hy300 : y ≤ 300 := by omega
              go_wp2
              go_roundw
              case rel => exact ⟨k + 1, by omega, by go_num, H4.out⟩
              case measure => simp [intOf]; omega
            · subst h
              have hcq := HK.out.cell (q := 4) (by omega)
              have hfq := HK.out.free (q := 4)
              have H4 := Lib.hid (HK.out.yes HKL.out HQ.out.1 (q := 4) HQ.out.2 (by omega))
              have hle := cntL_le g l (((4 : Nat) : Int)) k
              obtain ⟨y, hy⟩ : ∃ y, cntL g l (((4 : Nat) : Int)) k = y := ⟨_, rfl⟩
              rw [hy] at hcq hle H4
              clear hy
              have hy300 : y ≤ 300 := by omega
              go_wp2
              go_roundw
              case rel => exact ⟨k + 1, by omega, by go_num, H4.out⟩
              case measure => simp [intOf]; omega
          · have H4 := Lib.hid (HK.out.no HKL.out (by rw [HX.out, HL.out]; omega))
            have hxd : decide (x < n) = false := by simp; omega
            clear hxn
            go_wp2
            go_roundw
            case rel => exact ⟨k + 1, by omega, by go_num, H4.out⟩
            case measure => simp [intOf]; omega
        · have hkn : k = n2 := by omega
          subst hkn
          have hv : Hid (kVal g l = .agg (lArr g l k)) := Lib.hid (by
            unfold kVal lArr kc
            rw [HG.out, ← HL2.out]
            simp only [if_true]
            rw [cntL_all HS.out HGR.out.few, cntL_all HS.out HGR.out.few, cntL_all HS.out HGR.out.few, cntL_all HS.out HGR.out.few, cntL_all HS.out HGR.out.few])
          have hc0 : ∀ j, wr.cell? ⟨w.heap.size, j, none⟩ = _ := fun j => cell_of_row wr _ j _ _ (0, 0) HK.out.res
          have hf0 : ∀ j, wr.frozen? ⟨w.heap.size, j, none⟩ = false := fun j => frozen_of_row wr _ j _ _ HK.out.res
          have g0 := HK.out.cell (q := 0) (by omega)
          have g1 := HK.out.cell (q := 1) (by omega)
          have g2 := HK.out.cell (q := 2) (by omega)
          have g3 := HK.out.cell (q := 3) (by omega)
          have g4 := HK.out.cell (q := 4) (by omega)
          have HBk := Lib.hid HK.out.bel
          go_wp2
          refine bodyPost_ret (v := .agg (lArr g l k)) (by simp [results, Tryd.results14, go_sem, hc0]; rfl) rfl ⟨by rw [hv.out], ?_⟩
          exact ((((HBk.out.setCell (Nat.le_refl _) _).setCell (Nat.le_refl _) _).setCell (Nat.le_refl _) _).setCell (Nat.le_refl _) _).setCell (Nat.le_refl _) _

end Go.Proofs.YtglboolijhekkaaDoor

namespace Go.Proofs.YtglboolijhekkaaDoor
open Go.RowKit

theorem graphOk_is : GraphOk where
  right := fun A n c g w h _ => graphRight_any A n c g w h.reads (ml300 h.few)
  tag := fun s w h _ => (tag_any s w h).mono fun _ _ ⟨h1, q, h2⟩ => ⟨h1, by rw [h2]; exact bel_drew w q⟩
  under := fun A n c g a w h ha _ => under_any A n c g a w h ha
  kinds := fun A n c A2 n2 c2 g l w h h2 _ => kinds_any A n c A2 n2 c2 g l w h h2
  nodes := fun A n c g w h _ => nodes_any A n c g w h

end Go.Proofs.YtglboolijhekkaaDoor
