/- The reference's change of a profile (bailiwickref03.change): the canonical list of what is free with so much more in a span. -/
import Derived.Test.YtkhnlbkghjjdnaaStepTimes
namespace Go.Proofs.Ytkhnlbkghjjdnaa
open Go.RowKit

theorem step_info : (Try.prog.info? 57).map (fun i => (i.zero, i.size, i.bytes)) = some (some (.agg #[.int .i64 0, .int .i64 0]), 2, 16) := by kernel_rfl

/-- the cells of a list of steps -/
def sCells : List (Int × Int) → List Value
  | [] => []
  | s :: r => .int .i64 s.1 :: .int .i64 s.2 :: sCells r
theorem sCells_length : ∀ l, (sCells l).length = l.length * 2
  | [] => rfl
  | s :: r => by simp [sCells, sCells_length r]; omega
theorem sCells_append : ∀ a b, sCells (a ++ b) = sCells a ++ sCells b
  | [], _ => rfl
  | s :: r, b => by simp [sCells, sCells_append r b]
theorem sCells_at : ∀ (l : List (Int × Int)) (k : Nat), k < l.length → (sCells l)[k * 2]? = some (.int .i64 (l.getD k (0, 0)).1) ∧ (sCells l)[k * 2 + 1]? = some (.int .i64 (l.getD k (0, 0)).2)
  | [], k, h => absurd h (by simp)
  | s :: r, 0, _ => ⟨rfl, rfl⟩
  | s :: r, k + 1, h => by
    have := sCells_at r k (by simpa using h)
    rw [show (k + 1) * 2 = k * 2 + 1 + 1 by omega]
    exact this
/-- an owned row of steps, in a world that keeps all that was there -/
def SOwn (w : World) (v : Value) (l : List (Int × Int)) (wr : World) : Prop :=
  wr.ownsRow w.heap.size 57 2 v l.length (sCells l) ∧ Below w.heap.size w wr
theorem SOwn.nil (w : World) : SOwn w (.slice none 0 0) [] w := ⟨World.ownsRow_nil _ _ _ _, Below.refl _ _⟩
theorem SOwn.snoc {w wr w2 : World} {v v' : Value} {l : List (Int × Int)} {x y : Int} {o : Obj} (h : SOwn w v l wr) (hown' : w2.ownsRow w.heap.size 57 2 v' (l.length + 1) (sCells l ++ [.int .i64 x, .int .i64 y])) (hgrow : (wr.alloc o).grownBy w2 v.ownBlock) :
    SOwn w v' (l ++ [(x, y)]) w2 := by
  refine ⟨?_, (h.2.alloc h.2.size o).grown hgrow (by have := h.2.size; simp; omega) (fun j hj => (h.1.lt j hj).1)⟩
  rw [List.length_append, sCells_append]
  exact hown'
theorem SOwn.drew {w wr : World} {v : Value} {l : List (Int × Int)} (h : SOwn w v l wr) (q : Nat) : SOwn w v l (wr.drewN q) := ⟨h.1, ⟨h.2.1, h.2.2, h.2.3, h.2.4, h.2.5⟩⟩
theorem RS.of_own {w : World} {base n c : Nat} {e : TypeId} {A : Option Addr} {l : List (Int × Int)} (h : w.ownsRow base e 2 (.slice A n c) n (sCells l)) : RS w w.heap.size A n l := by
  have hl : l.length = n := by have := h.1; rw [sCells_length] at this; omega
  refine ⟨hl, fun hn => ?_⟩
  rcases h.2 with ⟨-, h0⟩ | ⟨g, cap, cur, hv, _, hh, _, _, _, _⟩
  · omega
  · injection hv with hv
    subst hv
    refine ⟨g, 0, rfl, (Array.getElem?_eq_some_iff.1 hh).1, fun j hj => ?_⟩
    have h1 := h.cells (g := g) rfl (j * 2) _ (sCells_at l j (by omega)).1
    have h2 := h.cells (g := g) rfl (j * 2 + 1) _ (sCells_at l j (by omega)).2
    rw [add_none] at h1 h2
    exact ⟨by simpa using h1, by simpa [Nat.add_assoc] using h2⟩
theorem RT.of_own {w : World} {base n c : Nat} {e : TypeId} {A : Option Addr} {l : List Int} (h : w.ownsRow base e 1 (.slice A n c) n (l.map (Value.int .i64))) : RT w w.heap.size A n l := by
  have hl : l.length = n := by have := h.1; simpa using this
  refine ⟨hl, fun hn => ?_⟩
  rcases h.2 with ⟨-, h0⟩ | ⟨g, cap, cur, hv, _, hh, _, _, _, _⟩
  · omega
  · injection hv with hv
    subst hv
    refine ⟨g, 0, rfl, (Array.getElem?_eq_some_iff.1 hh).1, fun j hj => ?_⟩
    have := h.cells (g := g) rfl j (.int .i64 (l.getD j 0)) (by simp [List.getD, show j < l.length by omega])
    rw [add_none] at this
    simpa using this
/-- the last of an owned row of steps -/
theorem sown_last {w wr : World} {A : Option Addr} {c : Nat} {l : List (Int × Int)} (h : SOwn w (.slice A l.length c) l wr) (hn : 0 < l.length) :
    ∃ g, A = some ⟨g, 0, none⟩ ∧ wr.cell? ⟨g, (l.length - 1) * 2 + 1, none⟩ = some (.int .i64 (l.getD (l.length - 1) (0, 0)).2) := by
  obtain ⟨b, off, e, _, hc⟩ := (RS.of_own h.1).2 hn
  rcases h.1.2 with ⟨hv, h0⟩ | ⟨g, cap, cur, hv, _⟩
  · omega
  · injection hv with hv
    subst hv
    injection e with e
    injection e with e1 e2
    subst e1 e2
    have := (hc (l.length - 1) (by omega)).2
    exact ⟨_, rfl, by simpa using this⟩

/-! ### the walk -/
/-- what the program's own words make of a time: what is free then, and so much more in the span -/
def changeF (p : List (Int × Int)) (a b d t : Int) : Int := foldAt p t 0 + (if a ≤ t ∧ t < b then d else 0)
def changeR (p : List (Int × Int)) (a b d : Int) : List (Int × Int) := (timesL p a b).foldl (putStep (changeF p a b d)) []
theorem foldAt_range {p : List (Int × Int)} (hb : Bounded p) (t : Int) : 0 ≤ foldAt p t 0 ∧ foldAt p t 0 ≤ 1048576 := by
  have : ∀ (q : List (Int × Int)) (n : Int), Bounded q → 0 ≤ n → n ≤ 1048576 → 0 ≤ foldAt q t n ∧ foldAt q t n ≤ 1048576 := by
    intro q
    induction q with
    | nil => intro n _ h1 h2; exact ⟨h1, h2⟩
    | cons s r ih =>
      intro n hq h1 h2
      unfold foldAt
      simp only [List.foldl_cons]
      have hs := hq s List.mem_cons_self
      have hr : Bounded r := fun u hu => hq u (List.mem_cons_of_mem _ hu)
      split
      · exact ih _ hr hs.1 hs.2
      · exact ih _ hr h1 h2
  exact this p 0 hb (Int.le_refl _) (by omega)
theorem foldl_congr_mem {α β : Type} {f g : β → α → β} : ∀ (l : List α) (z : β), (∀ x ∈ l, ∀ y, f y x = g y x) → l.foldl f z = l.foldl g z
  | [], _, _ => rfl
  | x :: l, z, h => by
    simp only [List.foldl_cons]
    rw [h x List.mem_cons_self]
    exact foldl_congr_mem l _ fun y hy => h y (List.mem_cons_of_mem _ hy)
theorem changeR_is {p : List (Int × Int)} (hp : Canon p) {a b d : Int} (h0 : 0 ≤ a) (hab : a < b) (hb : b ≤ NEVER) : changeR p a b d = changeL p a b d := by
  unfold changeR changeL
  refine foldl_congr_mem _ _ fun t ht out => ?_
  obtain ⟨ts, h1, h2, _⟩ := times_ok hp h0 hab hb
  rw [h1] at ht
  have ht0 : 0 ≤ t := by
    rcases List.mem_cons.1 ht with rfl | ht
    · exact Int.le_refl _
    · have := (h2.above t ht).1; omega
  have e : changeF p a b d t = changeV p a b d t := by unfold changeF changeV; rw [foldAt_canon hp ht0]
  unfold putStep
  rw [e]
theorem timesL_len (p : List (Int × Int)) (a b : Int) : (timesL p a b).length ≤ 3 * p.length + 2 := by
  have h1 : ∀ (l : List Int) (x : Int), (addIf l x).length ≤ l.length + 1 := fun l x => by unfold addIf; split <;> simp
  have h2 : ∀ (r : List (Int × Int)) (l : List Int), (r.foldl (stepTimes a b) l).length ≤ l.length + 3 * r.length := by
    intro r
    induction r with
    | nil => intro l; simp
    | cons s r ih =>
      intro l
      have h := ih (stepTimes a b l s)
      have h3 : (stepTimes a b l s).length ≤ l.length + 3 := by
        unfold stepTimes
        simp only
        refine Nat.le_trans (h1 _ _) ?_
        have e1 : (if a < s.1 then addIf l a else l).length ≤ l.length + 1 := by split; exact h1 _ _; omega
        generalize (if a < s.1 then addIf l a else l) = l1 at *
        have e2 : (if b < s.1 then addIf l1 b else l1).length ≤ l1.length + 1 := by split; exact h1 _ _; omega
        omega
      simp only [List.foldl_cons, List.length_cons]
      omega
  unfold timesL
  have h3 := h1 (addIf (p.foldl (stepTimes a b) []) a) b
  have h4 := h1 (p.foldl (stepTimes a b) []) a
  have h5 := h2 p []
  simp only [List.length_nil, Nat.zero_add] at h5
  omega

/-- what change leaves -/
def ChangePost (A : Option Addr) (n c : Nat) (L : List (Int × Int)) (w : World) (e : Ending) (w' : World) : Prop :=
  (L.length ≤ 1024 ∧ ∃ v, e = .returned (.tuple #[v, .int .i64 0]) ∧ SOwn w v L w') ∨ (1024 < L.length ∧ e = .returned (.tuple #[.slice A n c, .int .i64 4]) ∧ Below w.heap.size w w')

set_option maxRecDepth 100000 in
set_option maxHeartbeats 4000000 in
theorem change_any (A : Option Addr) (n c : Nat) (p : List (Int × Int)) (a b d : Int) (w : World) (hr : RS w w.heap.size A n p) (hn : n ≤ 2000) (h0 : 0 < n) (hbd : Bounded p) (hd1 : -1048576 ≤ d) (hd2 : d ≤ 1048576) :
    Calls Try.prog 53 #[.slice A n c, .int .i64 a, .int .i64 b, .int .i64 d] w (ChangePost A n c (changeR p a b d) w) := by
  have HR := Lib.hid hr
  have HBD := Lib.hid hbd
  clear hr hbd
  obtain ⟨i0, hi0, hz0, hz1, hz2⟩ := info_parts step_info
  go_enter Try.func53, Try.ntmps53
  go_wp2_with fail
  refine (times_any _ _ _ p _ _ _ HR.out hn h0).mono ?_
  rintro e w1 ⟨v1, rfl, hT1⟩
  obtain ⟨A1, c1, rfl⟩ := own_form hT1.1
  have HT := Lib.hid (RT.of_own hT1.1)
  have HB1 := Lib.hid hT1.2
  clear hT1
  have HRes : Hid (changeR p a b d = (timesL p a b).foldl (putStep (changeF p a b d)) []) := Lib.hid rfl
  have HRL := timesL_len p a b
  rw [HR.out.1] at HRL
  obtain ⟨ts, hts⟩ : ∃ ts, timesL p a b = ts := ⟨_, rfl⟩
  rw [hts] at HT HRes HRL ⊢
  clear hts
  obtain ⟨m, hm⟩ : ∃ m, ts.length = m := ⟨_, rfl⟩
  rw [hm] at HT HRL ⊢
  have HM := Lib.hid hm
  clear hm
  go_wp2
  go_loopg [11, 12] m (fun g v i wr => ∃ k : Nat, k ≤ m ∧ g = m - k ∧ i = .int .i64 k ∧ SOwn w1 v ((ts.take k).foldl (putStep (changeF p a b d)) []) wr ∧ ((ts.take k).foldl (putStep (changeF p a b d)) []).length ≤ k)
  case atStart => exact ⟨0, by omega, rfl, rfl, SOwn.nil _, Nat.le_refl _⟩
  case round =>
    obtain ⟨k, hk, rfl, rfl, hT, hlen⟩ := hrel
    by_cases hlt : k < m
    · have hs : Hid ((ts.take (k + 1)).foldl (putStep (changeF p a b d)) [] = putStep (changeF p a b d) ((ts.take k).foldl (putStep (changeF p a b d)) []) (ts.getD k 0)) := Lib.hid (foldl_take _ _ _ 0 _ (by rw [HM.out]; exact hlt))
      generalize (ts.take k).foldl (putStep (changeF p a b d)) [] = l at *
      obtain ⟨b1, o1, rfl, hb1, hc1⟩ := HT.out.2 (by omega)
      have hct : Hid (∀ wy, Below w1.heap.size w1 wy → wy.cell? ⟨b1, o1 + k, none⟩ = some (.int .i64 (ts.getD k 0))) := Lib.hid (fun wy hb => (hb.cell hb1).trans (hc1 k hlt))
      clear hc1
      have hps : Hid (putStep (changeF p a b d) l (ts.getD k 0) = if l = [] ∨ (l.getD (l.length - 1) (0, 0)).2 ≠ changeF p a b d (ts.getD k 0) then l ++ [(ts.getD k 0, changeF p a b d (ts.getD k 0))] else l) := Lib.hid rfl
      generalize ts.getD k 0 = t at *
      obtain ⟨Av, cv, rfl⟩ := own_form hT.1
      have hc0 := hct.out wr hT.2
      have hrr := Lib.hid ((HR.out.next HB1.out).next hT.2)
      go_wp2_with fail
      refine (refat_any _ _ _ p _ _ _ hrr.out hn).mono ?_
      rintro e w3 ⟨rfl, rfl⟩
      clear hrr
      have hy := foldAt_range HBD.out t
      have hF : Hid (changeF p a b d t = foldAt p t 0 + (if a ≤ t ∧ t < b then d else 0)) := Lib.hid rfl
      generalize foldAt p t 0 = y at *
      obtain ⟨f, hf⟩ : ∃ f, changeF p a b d t = f := ⟨_, rfl⟩
      rw [hf] at hF hps
      clear hf
      go_upto_region 7 with fail
      go_cut [43] (fun sq wx => sq = .bool (decide (a ≤ t ∧ t < b)) ∧ wx = wr)
      case first =>
        by_cases h1 : a ≤ t
        · by_cases h2 : t < b
          · have e : Hid (decide (a ≤ t ∧ t < b) = true) := Lib.hid (decide_eq_true ⟨h1, h2⟩)
            go_wp2
            go_meet
            exact ⟨congrArg Value.bool e.out.symm, rfl⟩
          · have e : Hid (decide (a ≤ t ∧ t < b) = false) := Lib.hid (decide_eq_false (fun h => h2 h.2))
            have h2d : decide (t < b) = false := by simpa using h2
            go_wp2
            go_meet
            exact ⟨congrArg Value.bool e.out.symm, rfl⟩
        · have e : Hid (decide (a ≤ t ∧ t < b) = false) := Lib.hid (decide_eq_false (fun h => h1 h.1))
          have h1d : decide (a ≤ t) = false := by simpa using h1
          go_wp2
          go_meet
          exact ⟨congrArg Value.bool e.out.symm, rfl⟩
      case rest =>
        obtain ⟨rfl, hw⟩ := hcut
        subst hw
        go_upto_if 43 with fail
        go_cut [13] (fun sf wx => sf = .int .i64 f ∧ wx = wc)
        case first =>
          by_cases h1 : a ≤ t ∧ t < b
          · have e : f = y + d := by rw [hF.out, if_pos h1]
            have hq : decide (a ≤ t ∧ t < b) = true := decide_eq_true h1
            go_wp2
            go_meet
            exact ⟨by rw [e], rfl⟩
          · have e : f = y := by rw [hF.out, if_neg h1]; omega
            have hq : decide (a ≤ t ∧ t < b) = false := decide_eq_false h1
            go_wp2
            go_meet
            exact ⟨by rw [e], rfl⟩
        case rest =>
          obtain ⟨rfl, hw⟩ := hcut
          subst hw
          clear hc0
          by_cases hl : l.length = 0
          · have hln : l = [] := List.eq_nil_of_length_eq_zero hl
            have hlb : ((l.length : Int) == 0) = true := by simp [hln]
            have hput : Hid (putStep (changeF p a b d) l t = l ++ [(t, f)]) := Lib.hid (by rw [hps.out, if_pos (.inl hln)])
            have hca := hct.out (wc.alloc (.cells #[.int .i64 t, .int .i64 f] 57)) (hT.2.alloc hT.2.size _)
            have hcb := hct.out wc hT.2
            go_wp2_with (at_builtin; refine wpList_append_own _ rfl (.tmp 61) (.tmp 68) 26 rfl w1.heap.size 57 i0 (.agg #[.int .i64 0, .int .i64 0]) 2 16 Try.underlying26 hi0 hz0 hz1 hz2 rfl (by decide) _ _ _ rfl (hT.1.alloc _) ⟨wc.heap.size, 0, none⟩ 1 1 [.int .i64 t, .int .i64 f] rfl rfl (by intro j u hj; match j, hj with | 0, hj => simp at hj; subst hj; simp [Addr.add] | 1, hj => simp at hj; subst hj; simp [Addr.add]) (by intro u hu; simp at hu; rcases hu with rfl | rfl <;> rfl) (by unfold maxLen; omega) (by omega) (by have := hT.2.size; simp; omega) ?_; intro v' w2 hown' hgrow _; refine Hid.out ?_)
            refine Lib.hid ?_
            have R := Lib.hid (hT.snoc hown' hgrow)
            clear hown' hgrow
            go_wp2
            go_roundg (m - (k + 1))
            case measure => omega
            case rel => exact ⟨k + 1, by omega, rfl, by go_num, by rw [hs.out, hput.out]; exact R.out, by rw [hs.out, hput.out]; simp; omega⟩
          · have hlb : ((l.length : Int) == 0) = false := by simp; intro h; exact hl (by rw [h]; rfl)
            have hlne : l ≠ [] := fun h => hl (by rw [h]; rfl)
            obtain ⟨g1, rfl, hlast⟩ := sown_last hT (by omega)
            by_cases hne : (l.getD (l.length - 1) (0, 0)).2 = f
            · have hput : Hid (putStep (changeF p a b d) l t = l) := Lib.hid (by rw [hps.out, if_neg (by rintro (h | h); exact hlne h; exact h hne)])
              have hneb : ((l.getD (l.length - 1) (0, 0)).2 != f) = false := by rw [hne]; simp
              generalize (l.getD (l.length - 1) (0, 0)).2 = z at *
              go_wp2
              go_roundg (m - (k + 1))
              case measure => omega
              case rel => exact ⟨k + 1, by omega, rfl, by go_num, by rw [hs.out, hput.out]; exact hT, by rw [hs.out, hput.out]; omega⟩
            · have hput : Hid (putStep (changeF p a b d) l t = l ++ [(t, f)]) := Lib.hid (by rw [hps.out, if_pos (.inr hne)])
              have hneb : ((l.getD (l.length - 1) (0, 0)).2 != f) = true := bne_iff_ne.2 hne
              generalize (l.getD (l.length - 1) (0, 0)).2 = z at *
              have hca := hct.out (wc.alloc (.cells #[.int .i64 t, .int .i64 f] 57)) (hT.2.alloc hT.2.size _)
              have hcb := hct.out wc hT.2
              go_wp2_with (at_builtin; refine wpList_append_own _ rfl (.tmp 61) (.tmp 68) 26 rfl w1.heap.size 57 i0 (.agg #[.int .i64 0, .int .i64 0]) 2 16 Try.underlying26 hi0 hz0 hz1 hz2 rfl (by decide) _ _ _ rfl (hT.1.alloc _) ⟨wc.heap.size, 0, none⟩ 1 1 [.int .i64 t, .int .i64 f] rfl rfl (by intro j u hj; match j, hj with | 0, hj => simp at hj; subst hj; simp [Addr.add] | 1, hj => simp at hj; subst hj; simp [Addr.add]) (by intro u hu; simp at hu; rcases hu with rfl | rfl <;> rfl) (by unfold maxLen; omega) (by omega) (by have := hT.2.size; simp; omega) ?_; intro v' w2 hown' hgrow _; refine Hid.out ?_)
              refine Lib.hid ?_
              have R := Lib.hid (hT.snoc hown' hgrow)
              clear hown' hgrow
              go_wp2
              go_roundg (m - (k + 1))
              case measure => omega
              case rel => exact ⟨k + 1, by omega, rfl, by go_num, by rw [hs.out, hput.out]; exact R.out, by rw [hs.out, hput.out]; simp; omega⟩
    · have hkm : k = m := by omega
      have hd : decide (k < m) = false := by simpa using hlt
      have hp : (ts.take k).foldl (putStep (changeF p a b d)) [] = changeR p a b d := by rw [HRes.out, List.take_of_length_le (by rw [HM.out]; omega)]
      rw [hp] at hT hlen
      generalize changeR p a b d = L at *
      obtain ⟨Av, cv, rfl⟩ := own_form hT.1
      have hfin : Hid (SOwn w (.slice Av L.length cv) L wr) := Lib.hid ⟨own_base hT.1 HB1.out.size, HB1.out.trans (hT.2.mono HB1.out.size)⟩
      by_cases h1 : 1024 < L.length
      · go_wp2
        go_ret2
        exact .inr ⟨h1, rfl, hfin.out.2⟩
      · go_wp2
        go_ret2
        exact .inl ⟨by omega, _, rfl, hfin.out⟩

end Go.Proofs.Ytkhnlbkghjjdnaa
