/- A row of holdings of one's own: a holding is stored; a table's clone, a holding's own memory. Go's slices.Clone of numbers, by a walk over its text: a clone lies in memory of its own. The program's own, and slices.Clone of holdings: copies in memory of their own. The program's functions of layer 2 (when) that layer 3 calls: Right, Within, Plus: what they answer of any numbers. The program's when.Meets and may of layer 10: do two spans meet; may a holding be. Plain facts that the statements of layer 10 ask for. small of layer 13's statements. Written by gen/gen_slot.py. Plain facts for the reference's side of layer 13: what is free, thing by thing; the first slot, holding by holding. -/
import Derived.Test.YtpoalgkgomljmaaGreatDoorMg04
import Derived.Test.YtpoalgkgomljmaaGreatDoorMg09
import Derived.Lib.SliceRun
import Derived.LoopTactic
import Derived.Deep.QuietTactic
import Derived.Test.YtpoalgkgomljmaaGreatDoorMg01
import Derived.Test.YtpoalgkgomljmaaGreatDoorMg05
import Derived.Below
import Derived.Test.YtpoalgkgomljmaaGreatDoorMg02
import Derived.Test.YtpoalgkgomljmaaGreatDoorMg07
namespace Go.Proofs.YtpoalgkgomljmaaGreatDoor
open Go.RowKit

section
variable {α : Type} {E : Elem α} {t : TypeId} {w wr w1 : World} {g n cap : Nat} {xs : List α}
/-- an element of a row of one's own is stored anew -/
theorem ON.set4 (hE : Steady E) (h : ON E 4 t w (.slice (some ⟨g, 0, none⟩) n cap) xs wr) {i : Nat} (hi : i < xs.length) {x : α} {v0 v1 v2 v3 : Value} (hx : E wr (fun b => b < wr.heap.size ∧ b ≠ g) x [v0, v1, v2, v3]) :
    ON E 4 t w (.slice (some ⟨g, 0, none⟩) n cap) (xs.set i x) ((((wr.setCell ⟨g, i * 4, none⟩ v0).setCell ⟨g, i * 4 + 1, none⟩ v1).setCell ⟨g, i * 4 + 2, none⟩ v2).setCell ⟨g, i * 4 + 3, none⟩ v3) := by
  obtain ⟨fl, h1, h2, h3⟩ := h
  have hn : n = xs.length := by
    rcases h1.2 with ⟨e, _⟩ | ⟨g', cap', cur, e, _⟩
    · cases e
    · injection e
  subst hn
  have hfl := h1.1
  have s0 := (h1.stored (i * 4) v0).1
  have s1 := (s0.stored (i * 4 + 1) v1).1
  have s2 := (s1.stored (i * 4 + 2) v2).1
  have s3 := (s2.stored (i * 4 + 3) v3).1
  have hgb : w.heap.size ≤ g := (h1.lt g rfl).1
  have hk : ∀ b, b ≠ g → ((((wr.setCell ⟨g, i * 4, none⟩ v0).setCell ⟨g, i * 4 + 1, none⟩ v1).setCell ⟨g, i * 4 + 2, none⟩ v2).setCell ⟨g, i * 4 + 3, none⟩ v3).heap[b]? = wr.heap[b]? := fun b hb => by
    rw [Below.heap_setCell _ _ _ _ hb, Below.heap_setCell _ _ _ _ hb, Below.heap_setCell _ _ _ _ hb, Below.heap_setCell _ _ _ _ hb]
  have hsz : ((((wr.setCell ⟨g, i * 4, none⟩ v0).setCell ⟨g, i * 4 + 1, none⟩ v1).setCell ⟨g, i * 4 + 2, none⟩ v2).setCell ⟨g, i * 4 + 3, none⟩ v3).heap.size = wr.heap.size := by simp [World.setCell]
  refine ⟨_, by rw [List.length_set]; exact s3, (((h2.setCell (p := ⟨g, _, none⟩) hgb v0).setCell (p := ⟨g, _, none⟩) hgb v1).setCell (p := ⟨g, _, none⟩) hgb v2).setCell (p := ⟨g, _, none⟩) hgb v3, fun j y hy => ?_⟩
  have hj : j < xs.length := by have := (List.getElem?_eq_some_iff.1 hy).1; rwa [List.length_set] at this
  by_cases hji : j = i
  · subst hji
    rw [List.getElem?_set_self hj] at hy
    have hy' : x = y := by simpa using hy
    subst hy'
    have e : ((((((fl.set (j * 4) v0).set (j * 4 + 1) v1).set (j * 4 + 2) v2).set (j * 4 + 3) v3).drop (j * 4)).take 4) = [v0, v1, v2, v3] := by
      apply List.ext_getElem?
      intro k
      match k with
      | 0 => simp [List.getElem?_drop, List.getElem?_set]; omega
      | 1 => simp [List.getElem?_drop, List.getElem?_set]; omega
      | 2 => simp [List.getElem?_drop, List.getElem?_set]; omega
      | 3 => simp [List.getElem?_drop, List.getElem?_set]; omega
      | k + 4 => simp [List.getElem?_take]; omega
    rw [e]
    exact hE.keep hx (fun b hb => hk b hb.2) (fun b hb => ⟨by rw [hsz]; exact hb.1, fun e => by
      have e' : g = b := by simpa [Value.ownBlock] using e
      exact hb.2 e'.symm⟩)
  · rw [List.getElem?_set_ne (fun e => hji e.symm)] at hy
    have e : ((((((fl.set (i * 4) v0).set (i * 4 + 1) v1).set (i * 4 + 2) v2).set (i * 4 + 3) v3).drop (j * 4)).take 4) = (fl.drop (j * 4)).take 4 := by
      apply List.ext_getElem?
      intro k
      rw [List.getElem?_take, List.getElem?_take]
      split
      · rw [List.getElem?_drop, List.getElem?_drop, List.getElem?_set_ne (by omega), List.getElem?_set_ne (by omega), List.getElem?_set_ne (by omega), List.getElem?_set_ne (by omega)]
      · rfl
    rw [e]
    refine hE.keep (h3 j y hy) (fun b hb => hk b (fun e => hb.2 (by rw [e]; rfl))) (fun b hb => ⟨by rw [hsz]; exact hb.1, hb.2⟩)
end
/-- a table's cells are one cell each -/
theorem flat_one {ok : Nat → Prop} {w : World} {l : Tb} {fl : List Value} (h1 : fl.length = l.length * 4) (h : ∀ j x, l[j]? = some x → EH w ok x ((fl.drop (j * 4)).take 4)) : ∀ u ∈ fl, u.oneCell' = true := by
  intro u hu
  obtain ⟨k, hk, rfl⟩ := List.getElem_of_mem hu
  have hj : k / 4 < l.length := by omega
  obtain ⟨A, m, c, hv, _⟩ := h (k / 4) _ (List.getElem?_eq_getElem hj)
  have e : ((fl.drop (k / 4 * 4)).take 4)[k % 4]? = some fl[k] := by
    rw [List.getElem?_take_of_lt (by omega), List.getElem?_drop, show k / 4 * 4 + k % 4 = k by omega, List.getElem?_eq_getElem hk]
  rw [hv] at e
  have h4 : k % 4 < 4 := Nat.mod_lt _ (by omega)
  rcases (show k % 4 = 0 ∨ k % 4 = 1 ∨ k % 4 = 2 ∨ k % 4 = 3 by omega) with h0 | h0 | h0 | h0
  all_goals
    rw [h0] at e
    have e' := Option.some.inj e
    rw [← e']
    rfl

end Go.Proofs.YtpoalgkgomljmaaGreatDoor

namespace Go.Proofs.YtpoalgkgomljmaaGreatDoor
open Go.RowKit

set_option maxRecDepth 100000 in
set_option maxHeartbeats 2000000 in
/-- a clone of numbers lies in memory of its own -/
theorem clone_any (A : Option Addr) (n c : Nat) (xs : List Int) (w : World) (hr : RI w w.heap.size A n xs) (hnil : A = none → c = 0) (hn : n ≤ 1000) :
    Calls Tryz.prog 66 #[.slice A n c] w fun e w' => ∃ v, e = .returned v ∧ ON EI 1 3 w v xs w' := by
  obtain ⟨i0, hi0, hz0, hz1, hz2⟩ := info_parts int_info
  have HR := Lib.hid hr
  cases A with
  | none =>
    obtain rfl := hnil rfl
    have hn0 : n = 0 := by
      rcases Nat.eq_zero_or_pos n with h0 | h0
      · exact h0
      · obtain ⟨b, off, e', _⟩ := hr.2 h0; cases e'
    subst hn0
    have hxs : Hid (xs = []) := Lib.hid (List.eq_nil_of_length_eq_zero hr.1)
    have q22 : ∀ (w : World) (a : Option Addr) (n c n' c' : Nat), (binOp .eql 23 (.slice a n c) (.slice none n' c')).run Tryz.prog w = .ok (.bool a.isNone) w := fun w a n c n' c' => Lib.run_eql_slice_nil w _ _ a n c n' c' Tryz.underlying23
    clear hr hnil hn
    go_enter Tryz.func66, Tryz.ntmps66
    go_wp2
    go_ret
    exact ⟨_, rfl, by rw [hxs.out]; exact ON.nil _⟩
  | some ad =>
    have q22 : ∀ (w : World) (a : Option Addr) (n c n' c' : Nat), (binOp .eql 23 (.slice a n c) (.slice none n' c')).run Tryz.prog w = .ok (.bool a.isNone) w := fun w a n c n' c' => Lib.run_eql_slice_nil w _ _ a n c n' c' Tryz.underlying23
    clear hr hnil
    have HR1 : Hid (RI (w.alloc (.cells #[] 3)) (w.alloc (.cells #[] 3)).heap.size (some ad) n xs) := Lib.hid (HR.out.next ((Below.refl _ _).alloc (Nat.le_refl _) _))
    go_enter Tryz.func66, Tryz.ntmps66
    go_wp2_with (at_builtin; refine wpList_append_RI _ rfl _ _ 23 rfl w.heap.size 3 i0 (.int .i64 0) 8 Tryz.underlying23 hi0 hz0 hz1 hz2 rfl (.slice (some ⟨w.heap.size, 0, none⟩) 0 0) 0 [] rfl (World.ownsRow_made w #[] 0 (Nat.le_refl _) (Nat.zero_le _) rfl) _ _ n c xs rfl HR1.out (fun e => by cases e) (by unfold maxLen; omega) (by omega) (by simp) ?_; intro v' w1 hown hgrow; refine Hid.out ?_)
    refine Lib.hid ?_
    have HO : Hid (ON EI 1 3 w v' xs w1) := Lib.hid (own_on (by have h := hown; have hl := HR.out.1; rw [Nat.zero_add, List.nil_append] at h; rw [hl]; exact h) (((Below.refl _ w).alloc (Nat.le_refl _) _).grown hgrow (by simp) (by intro k hk; have hk' : w.heap.size = k := (by simpa [Value.ownBlock] using hk); omega)))
    clear hown hgrow
    go_wp2
    go_ret
    exact ⟨_, rfl, HO.out⟩


end Go.Proofs.YtpoalgkgomljmaaGreatDoor

namespace Go.Proofs.YtpoalgkgomljmaaGreatDoor
open Go.RowKit

theorem BoxH.set {wr : World} {g j : Nat} {h h' : Hd} {A A' : Option Addr} {m c m' c' : Nat} {v : Value} (x : BoxH wr g h A m c) (e : (#[.int .i64 h.id, .slice A m c, .int .i64 h.frm, .int .i64 h.to] : Array Value).setIfInBounds j v = #[.int .i64 h'.id, .slice A' m' c', .int .i64 h'.frm, .int .i64 h'.to]) : BoxH (wr.setCell ⟨g, j, none⟩ v) g h' A' m' c' := by
  refine ⟨by simpa [World.setCell] using x.lt, ?_⟩
  show (wr.heap.modify g _)[g]? = _
  rw [Array.getElem?_modify, if_pos rfl, x.at']
  unfold hO
  simp only [Option.map_some]
  rw [← e]
  rfl
theorem BoxH.other {wr : World} {g b j : Nat} {h : Hd} {A : Option Addr} {m c : Nat} {v : Value} (x : BoxH wr g h A m c) (hb : g ≠ b) : BoxH (wr.setCell ⟨b, j, none⟩ v) g h A m c :=
  ⟨by simpa [World.setCell] using x.lt, (Below.heap_setCell _ _ _ _ hb).trans x.at'⟩

theorem own_keep {w wr : World} {B C n : Nat} {t : TypeId} {v : Value} {fl : List Value} (h : wr.ownsRow B t C v n fl) (hk : ∀ b, B ≤ b → w.heap[b]? = wr.heap[b]?) : w.ownsRow B t C v n fl := by
  refine ⟨h.1, h.2.imp id ?_⟩
  rintro ⟨g, cap, cur, e1, e2, e3, e4⟩
  exact ⟨g, cap, cur, e1, e2, (hk g e2).trans e3, e4⟩

/-- numbers in a row of one's own, which lies behind what was there -/
theorem rn_own {w : World} {base n c : Nat} {A : Option Addr} {t : TypeId} {xs : List Int} (h : w.ownsRow base t 1 (.slice A n c) n (xs.map (Value.int .i64))) : RN EI 1 w (fun b => base ≤ b ∧ b < w.heap.size) A n xs := by
  have hl : xs.length = n := by have := h.1; rw [List.length_map] at this; omega
  refine ⟨hl, fun h0 => ?_⟩
  rcases h.2 with ⟨_, e⟩ | ⟨g, cap, cur, e, _⟩
  · omega
  · injection e with e1 e2 e3
    subst e1 e3
    refine ⟨g, 0, rfl, h.lt g rfl, fun j x hx => ⟨[.int .i64 x], rfl, fun i v hv => ?_, rfl⟩⟩
    have hj := (List.getElem?_eq_some_iff.1 hx).1
    have hi : i = 0 := by have := (List.getElem?_eq_some_iff.1 hv).1; simpa using this
    subst hi
    have hv' : Value.int .i64 x = v := by simpa using hv
    subst hv'
    rw [show 0 + (j * 1 + 0) = j by omega, h.cellAt j (by omega), List.getElem?_map, hx]
    rfl

set_option maxRecDepth 100000 in
set_option maxHeartbeats 8000000 in
theorem own_any (A : Option Addr) (m c : Nat) (h : Hd) (w : World) (hh : HAsk w A m c h) (hm : m ≤ 1000) :
    Calls Tryz.prog 53 #[.agg #[.int .i64 h.id, .slice A m c, .int .i64 h.frm, .int .i64 h.to]] w fun e w' => (∃ A2 c2, e = .returned (.agg #[.int .i64 h.id, .slice A2 m c2, .int .i64 h.frm, .int .i64 h.to]) ∧ HAsk w' A2 m c2 h ∧ EH w' (fun b => w.heap.size ≤ b ∧ b < w'.heap.size) h [.int .i64 h.id, .slice A2 m c2, .int .i64 h.frm, .int .i64 h.to]) ∧ Below w.heap.size w w' := by
  obtain ⟨W, hW⟩ : ∃ W, W = (w.alloc (hO h A m c)).alloc (hO hd0 none 0 0) := ⟨_, rfl⟩
  have hb0 : Below w.heap.size w W := by rw [hW]; exact ((Below.refl _ _).alloc (Nat.le_refl _) _).alloc (by simp) _
  have BX : Hid (BoxH W w.heap.size h A m c) := Lib.hid (by
    rw [hW]; exact (boxH_new w h A m c).next ((Below.refl _ _).alloc (Nat.le_refl _) _))
  have BR : Hid (BoxH W (w.heap.size + 1) hd0 none 0 0) := Lib.hid (by
    have := boxH_new (w.alloc (hO h A m c)) hd0 none 0 0
    rw [World.size_alloc] at this
    rw [hW]; exact this)
  have HB := Lib.hid hb0
  have HH := Lib.hid (hh.next hb0)
  have HSW : Hid (W.heap.size = w.heap.size + 2) := Lib.hid (by rw [hW]; simp)
  unfold hO at hW
  have hml : m = h.things.length := hh.reads.1.symm
  have HML := Lib.hid hml
  clear hb0 hh hml
  have q0 := BX.out.c0
  have q1 := BX.out.c1
  have q2 := BX.out.c2
  have q3 := BX.out.c3
  go_enter Tryz.func53, Tryz.ntmps53
  go_wp2_with fail
  simp only [hd0] at hW
  rw [← hW]
  clear hW
  refine (clone_any _ _ _ _ _ HH.out.reads HH.out.nil hm).mono ?_
  rintro e w1 ⟨v, rfl, hon⟩
  obtain ⟨A2, c2, rfl, hn2, hc2⟩ := hon.form
  have hb := hon.below
  have HB1 := Lib.hid (HB.out.trans (hb.mono HB.out.size))
  have BX1 := Lib.hid (BX.out.next hb)
  have BR1 := Lib.hid (BR.out.next hb)
  have HO : Hid (w1.ownsRow W.heap.size 3 1 (.slice A2 h.things.length c2) h.things.length (h.things.map (Value.int .i64))) := Lib.hid (on_own hon).1
  have HF : Hid ((A2 = none → c2 = 0) ∧ h.things.length ≤ c2) := Lib.hid ⟨hn2, hc2⟩
  have HSZ : Hid (w.heap.size + 2 = W.heap.size) := Lib.hid (by rw [HSW.out])
  have hlen : h.things.length = m := HML.out.symm
  rw [hlen] at HO HF ⊢
  clear hon hb hn2 hc2 hlen q0 q1 q2 q3
  have q0 := BX1.out.c0
  have q1 := BX1.out.c1
  have q2 := BX1.out.c2
  have q3 := BX1.out.c3
  have z0 := BX1.out.frozen 0
  have z1 := BX1.out.frozen 1
  have p0 := BR1.out.c0
  have p1 := BR1.out.c1
  have p2 := BR1.out.c2
  have p3 := BR1.out.c3
  have y0 := BR1.out.frozen 0
  have y1 := BR1.out.frozen 1
  have y2 := BR1.out.frozen 2
  have y3 := BR1.out.frozen 3
  go_wp2
  have b1 : BoxH ((((w1.setCell ⟨w.heap.size, 1, none⟩ (.slice A2 m c2)).setCell ⟨w.heap.size + 1, 0, none⟩ (.int .i64 h.id)).setCell ⟨w.heap.size + 1, 1, none⟩ (.slice A2 m c2)).setCell ⟨w.heap.size + 1, 2, none⟩ (.int .i64 h.frm) |>.setCell ⟨w.heap.size + 1, 3, none⟩ (.int .i64 h.to)) (w.heap.size + 1) h A2 m c2 :=
    (((((BR1.out.other (by omega)).set (h' := ⟨h.id, [], 0, 0⟩) rfl).set (h' := ⟨h.id, [], 0, 0⟩) rfl).set (h' := ⟨h.id, [], h.frm, 0⟩) rfl).set (h' := h) rfl)
  have hbel : Below w.heap.size w ((((w1.setCell ⟨w.heap.size, 1, none⟩ (.slice A2 m c2)).setCell ⟨w.heap.size + 1, 0, none⟩ (.int .i64 h.id)).setCell ⟨w.heap.size + 1, 1, none⟩ (.slice A2 m c2)).setCell ⟨w.heap.size + 1, 2, none⟩ (.int .i64 h.frm) |>.setCell ⟨w.heap.size + 1, 3, none⟩ (.int .i64 h.to)) :=
    ((((HB1.out.setCell (p := ⟨_, _, none⟩) (Nat.le_refl _) _).setCell (p := ⟨_, _, none⟩) (Nat.le_succ _) _).setCell (p := ⟨_, _, none⟩) (Nat.le_succ _) _).setCell (p := ⟨_, _, none⟩) (Nat.le_succ _) _).setCell (p := ⟨_, _, none⟩) (Nat.le_succ _) _
  have hown : ((((w1.setCell ⟨w.heap.size, 1, none⟩ (.slice A2 m c2)).setCell ⟨w.heap.size + 1, 0, none⟩ (.int .i64 h.id)).setCell ⟨w.heap.size + 1, 1, none⟩ (.slice A2 m c2)).setCell ⟨w.heap.size + 1, 2, none⟩ (.int .i64 h.frm) |>.setCell ⟨w.heap.size + 1, 3, none⟩ (.int .i64 h.to)).ownsRow W.heap.size 3 1 (.slice A2 m c2) m (h.things.map (Value.int .i64)) :=
    own_keep HO.out fun b hb => by
      have := HSZ.out
      rw [Below.heap_setCell _ _ _ _ (show b ≠ w.heap.size + 1 by omega), Below.heap_setCell _ _ _ _ (show b ≠ w.heap.size + 1 by omega), Below.heap_setCell _ _ _ _ (show b ≠ w.heap.size + 1 by omega), Below.heap_setCell _ _ _ _ (show b ≠ w.heap.size + 1 by omega), Below.heap_setCell _ _ _ _ (show b ≠ w.heap.size by omega)]
  have r0 := b1.c0
  have r1 := b1.c1
  have r2 := b1.c2
  have r3 := b1.c3
  refine bodyPost_ret (v := .agg #[.int .i64 h.id, .slice A2 m c2, .int .i64 h.frm, .int .i64 h.to]) (by simp [results, Tryz.results53, go_sem, r0, r1, r2, r3]) rfl ⟨⟨A2, c2, rfl, ⟨RI.of_own hown, HF.out.1, HF.out.2, by unfold maxLen; omega, HH.out.int⟩, ⟨A2, m, c2, rfl, (rn_own hown).keep ei_steady (fun _ _ => rfl) (fun b hb => ⟨by have := HSZ.out; omega, hb.2⟩), HF.out.1, HF.out.2, by unfold maxLen; omega, HH.out.int⟩⟩, hbel⟩

set_option maxRecDepth 100000 in
set_option maxHeartbeats 2000000 in
/-- a clone of a table lies in memory of its own; what its holdings reach is as it was -/
theorem cloneQ_any (B : Nat) (A : Option Addr) (n c : Nat) (l : Tb) (w : World) (hB : B ≤ w.heap.size) (hr : RT w B A n l) (hnil : A = none → c = 0) (hn : n ≤ 1000) :
    Calls Tryz.prog 65 #[.slice A n c] w fun e w' => ∃ v, e = .returned v ∧ Below w.heap.size w w' ∧ RowQ EH 4 51 (Lt B) w.heap.size v l w' := by
  obtain ⟨i0, hi0, hz0, hz1, hz2⟩ : ∃ i, Tryz.prog.info? 51 = some i ∧ i.zero = some (.agg #[.int .i64 0, .slice none 0 0, .int .i64 0, .int .i64 0]) ∧ i.size = 4 ∧ i.bytes = 48 := info_parts held_info
  have HR := Lib.hid hr
  have q22 : ∀ (w : World) (a : Option Addr) (n c n' c' : Nat), (binOp .eql 24 (.slice a n c) (.slice none n' c')).run Tryz.prog w = .ok (.bool a.isNone) w := fun w a n c n' c' => Lib.run_eql_slice_nil w _ _ a n c n' c' Tryz.underlying24
  cases A with
  | none =>
    obtain rfl := hnil rfl
    have hn0 : n = 0 := by
      rcases Nat.eq_zero_or_pos n with h0 | h0
      · exact h0
      · obtain ⟨b, off, e', _⟩ := hr.2 h0; cases e'
    subst hn0
    have hxs : Hid (l = []) := Lib.hid (List.eq_nil_of_length_eq_zero hr.1)
    clear hr hnil hn
    go_enter Tryz.func65, Tryz.ntmps65
    go_wp2
    go_ret
    exact ⟨_, rfl, Below.refl _ _, by rw [hxs.out]; exact ⟨[], by simpa using World.ownsRow_nil w w.heap.size 51 4, fun j x h => by simp at h⟩⟩
  | some ad =>
    obtain ⟨fl, f1, f2, f3⟩ : ∃ fl : List Value, fl.length = n * 4 ∧ (∀ j u, fl[j]? = some u → w.cell? (ad.add j) = some u) ∧ ∀ j x, l[j]? = some x → EH w (Lt B) x ((fl.drop (j * 4)).take 4) := by
      rcases Nat.eq_zero_or_pos n with h0 | h0
      · subst h0
        have : l = [] := List.eq_nil_of_length_eq_zero hr.1
        subst this
        exact ⟨[], rfl, fun j u h => by simp at h, fun j x h => by simp at h⟩
      · obtain ⟨b, off, e, hb, hc⟩ := hr.2 h0
        injection e with e
        subst e
        obtain ⟨fl, k1, k2, k3⟩ := flat_of (C := 4) l off hc
        exact ⟨fl, by rw [k1, hr.1], fun j u hu => by rw [show (⟨b, off, none⟩ : Addr).add j = ⟨b, off + j, none⟩ by unfold Addr.add; split <;> simp_all]; exact k2 j u hu, k3⟩
    have F1 := Lib.hid f1
    have F2 : Hid (∀ j u, fl[j]? = some u → (w.alloc (.cells #[] 51)).cell? (ad.add j) = some u) := Lib.hid (fun j u hu => by
      have h1 := f2 j u hu
      have hlt : (ad.add j).block < w.heap.size := World.block_lt_of_cell? _ _ h1
      exact (((Below.refl _ w).alloc (Nat.le_refl _) _).cell hlt).trans h1)
    have F3 := Lib.hid f3
    have FO : Hid (∀ u ∈ fl, u.oneCell' = true) := Lib.hid (flat_one (by rw [f1, hr.1]) f3)
    have HL := Lib.hid hr.1
    clear hr hnil f1 f2 f3
    go_enter Tryz.func65, Tryz.ntmps65
    go_wp2_with (at_builtin; refine wpList_append_own _ rfl _ _ 24 rfl w.heap.size 51 i0 (.agg #[.int .i64 0, .slice none 0 0, .int .i64 0, .int .i64 0]) 4 48 Tryz.underlying24 hi0 hz0 hz1 hz2 rfl (by decide) (.slice (some ⟨w.heap.size, 0, none⟩) 0 0) 0 [] rfl (World.ownsRow_made w #[] 0 (Nat.le_refl _) (Nat.zero_le _) rfl) ad n c fl rfl F1.out F2.out FO.out (by unfold maxLen; omega) (by omega) (by simp) ?_; intro v' w1 hown hgrow _; refine Hid.out ?_)
    refine Lib.hid ?_
    have hb1 : Below w.heap.size w w1 := ((Below.refl _ w).alloc (Nat.le_refl _) _).grown hgrow (by simp) (by intro k hk; have hk' : w.heap.size = k := (by simpa [Value.ownBlock] using hk); omega)
    have HO : Hid (RowQ EH 4 51 (Lt B) w.heap.size v' l w1) := Lib.hid ⟨fl, by have h := hown; rw [Nat.zero_add, List.nil_append] at h; rw [HL.out]; exact h, fun j x hx => eh_steady.keep (F3.out j x hx) (fun b hb => hb1.block b (Nat.lt_of_lt_of_le hb hB)) (fun _ h => h)⟩
    have HB1 := Lib.hid hb1
    clear hown hgrow hb1
    go_wp2
    go_ret
    exact ⟨_, rfl, HB1.out, HO.out⟩

theorem cloneH_any (A : Option Addr) (n c : Nat) (l : Tb) (w : World) (hr : RT w w.heap.size A n l) (hnil : A = none → c = 0) (hn : n ≤ 1000) :
    Calls Tryz.prog 65 #[.slice A n c] w fun e w' => ∃ v, e = .returned v ∧ ON EH 4 51 w v l w' :=
  (cloneQ_any w.heap.size A n c l w (Nat.le_refl _) hr hnil hn).mono fun _ _ ⟨v, h1, h2, h3⟩ => ⟨v, h1, h3.on eh_steady h2 (fun b hb => ⟨Nat.lt_of_lt_of_le hb h2.size, fun e => by
    have := (h3.own b e).1
    have hb' : b < w.heap.size := hb
    omega⟩)⟩
theorem set_getD {l : Tb} {k : Nat} (hk : k < l.length) : l.set k (l.getD k hd0) = l := by
  rw [List.getD, List.getElem?_eq_getElem hk]
  exact List.set_getElem_self hk
set_option maxRecDepth 100000 in
set_option maxHeartbeats 8000000 in
theorem heldSame_any (A : Option Addr) (n c : Nat) (l : Tb) (w : World) (hr : RT w w.heap.size A n l) (hnil : A = none → c = 0) (hf : FewT l) :
    Calls Tryz.prog 49 #[.slice A n c] w fun e w' => ∃ v, e = .returned v ∧ ON EH 4 51 w v l w' := by
  have HL := Lib.hid hr.len
  have HF := Lib.hid hf
  have hn : n ≤ 100 := by rw [← hr.len]; exact hf.1
  have HC := Lib.hid (cloneH_any A n c l w hr hnil (by omega))
  clear hr hnil hf
  go_enter Tryz.func49, Tryz.ntmps49
  go_wp2_with fail
  refine HC.out.mono ?_
  rintro e w1 ⟨v, rfl, hon⟩
  obtain ⟨A1, c1, rfl, _, _⟩ := hon.form
  have HO := Lib.hid hon
  rw [HL.out] at HO ⊢
  clear hon
  go_wp2
  go_loopw [10] (fun i wr => ∃ k : Nat, k ≤ n ∧ i = .int .i64 k ∧ ON EH 4 51 w (.slice A1 n c1) l wr) (fun i _ => n - (intOf i).toNat)
  case atStart => exact ⟨0, Nat.zero_le _, rfl, HO.out⟩
  case round =>
    obtain ⟨k, hk, rfl, hrel⟩ := hrel
    have HK := Lib.hid hrel
    have HB := Lib.hid hrel.below
    clear hrel
    by_cases hlt : k < n
    · have hkl : k < l.length := by rw [HL.out]; exact hlt
      obtain ⟨b, off, A2, m2, c2, e, hbl, c0, c1', c2', c3', hx⟩ := RT.one (HK.out.reads eh_steady (by omega) rfl) hlt
      obtain ⟨g, hg, hgb, hgl⟩ := HK.out.head (by omega)
      have hmx := HF.out.at hkl
      have hset := set_getD hkl
      rw [hg] at e
      injection e with e
      injection e with e1 e2
      subst e1 e2 hg
      obtain ⟨x, hxx⟩ : ∃ x, l.getD k hd0 = x := ⟨_, rfl⟩
      rw [hxx] at c0 c2' c3' hx hmx hset
      have HS := Lib.hid hset
      have hm2 : m2 ≤ 1000 := by have := hx.reads.1; omega
      have hba : Below wr.heap.size wr (wr.alloc (hO x A2 m2 c2)) := (Below.refl _ _).alloc (Nat.le_refl _) _
      have HX := Lib.hid (hx.next hba)
      have HK1 := Lib.hid (HK.out.next eh_steady hba)
      have HBX : Hid (BoxH (wr.alloc (hO x A2 m2 c2)) wr.heap.size x A2 m2 c2) := Lib.hid (boxH_new wr x A2 m2 c2)
      have HGL : Hid (g < (wr.alloc (hO x A2 m2 c2)).heap.size) := Lib.hid (by simp; omega)
      unfold hO at HX HK1 HBX HGL
      have q0 := HBX.out.c0
      have q1 := HBX.out.c1
      have q2 := HBX.out.c2
      have q3 := HBX.out.c3
      simp only [Nat.zero_add] at c0 c1' c2' c3'
      clear hba hx hxx hmx hset hbl hgb hgl hkl
      go_wp2_with fail
      refine (own_any A2 m2 c2 x _ HX.out hm2).mono ?_
      rintro e w5 ⟨⟨A5, c5, rfl, hx5, he5⟩, hb5⟩
      have HK5 := Lib.hid (HK1.out.next eh_steady hb5)
      have HE5 : Hid (EH w5 (fun b => b < w5.heap.size ∧ b ≠ g) x _) := Lib.hid (eh_steady.keep he5 (fun _ _ => rfl) (fun b hb => ⟨hb.2, fun e => by have h1 := hb.1; have h2 := HGL.out; omega⟩))
      clear hx5 he5 hb5 q0 q1 q2 q3
      have HK6 := Lib.hid (HK5.out.set4 eh_steady (i := k) (by rw [HL.out]; exact hlt) HE5.out)
      rw [HS.out] at HK6
      obtain ⟨⟨u0, q0⟩, z0⟩ := HK5.out.block (i := k * 4) (by omega)
      obtain ⟨⟨u1, q1⟩, z1⟩ := HK5.out.block (i := k * 4 + 1) (by omega)
      obtain ⟨⟨u2, q2⟩, z2⟩ := HK5.out.block (i := k * 4 + 2) (by omega)
      obtain ⟨⟨u3, q3⟩, z3⟩ := HK5.out.block (i := k * 4 + 3) (by omega)
      go_wp2
      go_roundw
      case rel => exact ⟨k + 1, by omega, by go_num, HK6.out⟩
      case measure => simp [intOf]; omega
    · have hkn : k = n := by omega
      go_wp2
      go_ret
      exact ⟨_, rfl, HK.out⟩

end Go.Proofs.YtpoalgkgomljmaaGreatDoor

namespace Go.Proofs.YtpoalgkgomljmaaGreatDoor
open Go.RowKit

def withinB (a b c d : Int) : Bool := decide (b ≤ a ∨ (c ≤ a ∧ b ≤ d))
def timeB (t : Int) : Bool := decide (0 ≤ t ∧ t ≤ 4611686018427387904)

theorem ret_bl {a b : Bool} (h : b = a) : Ending.returned (.bool a) = .returned (.bool b) := by rw [h]

theorem near_any (x : Int) (w : World) : Calls Tryz.prog 73 #[.int .i64 x] w fun e w' => e = .returned (.int .i64 (nearZ x)) ∧ w = w' := by
  by_cases h3 : x < 0
  · have e : Hid (nearZ x = 0) := Lib.hid (by unfold nearZ; rw [if_pos h3])
    have m1 : max x 0 = 0 := by omega
    have m2 : min (0 : Int) 4611686018427387904 = 0 := by omega
    go_enter Tryz.func73, Tryz.ntmps73
    go_wp2
    go_ret
    exact ⟨ret_num e.out.symm, rfl⟩
  · have m1 : max x 0 = x := by omega
    by_cases h4 : 4611686018427387904 < x
    · have e : Hid (nearZ x = 4611686018427387904) := Lib.hid (by unfold nearZ; rw [if_neg h3, if_pos h4])
      have m2 : min x 4611686018427387904 = 4611686018427387904 := by omega
      go_enter Tryz.func73, Tryz.ntmps73
      go_wp2
      go_ret
      exact ⟨ret_num e.out.symm, rfl⟩
    · have e : Hid (nearZ x = x) := Lib.hid (by unfold nearZ; rw [if_neg h3, if_neg h4])
      have m2 : min x 4611686018427387904 = x := by omega
      go_enter Tryz.func73, Tryz.ntmps73
      go_wp2
      go_ret
      refine ⟨ret_num ?_, rfl⟩
      rw [e.out]

theorem whenRight_any (t : Int) (w : World) : Calls Tryz.prog 55 #[.int .i64 t] w fun e w' => e = .returned (.bool (timeB t)) ∧ w = w' := by
  by_cases h : 0 ≤ t
  · by_cases h2 : t ≤ 4611686018427387904
    · have e : Hid (timeB t = true) := Lib.hid (by unfold timeB; exact decide_eq_true ⟨h, h2⟩)
      go_enter Tryz.func55, Tryz.ntmps55
      go_wp2
      go_ret
      exact ⟨ret_bl e.out, rfl⟩
    · have e : Hid (timeB t = false) := Lib.hid (by unfold timeB; exact decide_eq_false (fun h' => h2 h'.2))
      go_enter Tryz.func55, Tryz.ntmps55
      go_wp2
      go_ret
      exact ⟨ret_bl e.out, rfl⟩
  · have e : Hid (timeB t = false) := Lib.hid (by unfold timeB; exact decide_eq_false (fun h' => h h'.1))
    go_enter Tryz.func55, Tryz.ntmps55
    go_wp2
    go_ret
    exact ⟨ret_bl e.out, rfl⟩


theorem whenPlus_any (t l : Int) (w : World) : Calls Tryz.prog 41 #[.int .i64 t, .int .i64 l] w fun e w' => e = .returned (.int .i64 (plusZ t l)) ∧ w = w' := by
  have e : Hid (plusZ t l = if 4611686018427387904 < nearZ t + nearZ l then 4611686018427387904 else nearZ t + nearZ l) := Lib.hid rfl
  obtain ⟨z, hz⟩ : ∃ z, plusZ t l = z := ⟨_, rfl⟩
  rw [hz] at e ⊢
  clear hz
  go_enter Tryz.func41, Tryz.ntmps41
  go_wp2_with fail
  refine (near_any _ _).mono ?_
  rintro e w1 ⟨rfl, rfl⟩
  go_wp2_with fail
  refine (near_any _ _).mono ?_
  rintro e w1 ⟨rfl, rfl⟩
  have r1 := nearZ_range t
  have r2 := nearZ_range l
  generalize nearZ t = x at *
  generalize nearZ l = y at *
  by_cases h5 : 4611686018427387904 < x + y
  · have e2 : z = 4611686018427387904 := by rw [e.out, if_pos h5]
    have h6 : 4611686018427387904 - x < y := by omega
    subst e2
    clear e
    go_wp2
    go_ret
    exact ⟨rfl, rfl⟩
  · have e2 : z = x + y := by rw [e.out, if_neg h5]
    have h6 : ¬ 4611686018427387904 - x < y := by omega
    subst e2
    clear e
    go_wp2
    go_ret
    exact ⟨rfl, rfl⟩

theorem plusZ_i64 (t l : Int) : I64 (plusZ t l) := by
  have r1 := nearZ_range t
  have r2 := nearZ_range l
  unfold I64 plusZ
  split <;> omega

theorem whenRight_b (t : Int) (w : World) (b : Bool) (h : timeB t = b) : Calls Tryz.prog 55 #[.int .i64 t] w fun e w' => e = .returned (.bool b) ∧ w = w' := by
  subst h
  exact whenRight_any t w

end Go.Proofs.YtpoalgkgomljmaaGreatDoor

namespace Go.Proofs.YtpoalgkgomljmaaGreatDoor
open Go.RowKit

theorem meets_max (a b c d : Int) : meetsZ a b c d = decide (max a c < min b d) := by
  unfold meetsZ
  exact decide_eq_decide.2 (by omega)
theorem meets_any {a b c d : Int} {v : Bool} {w : World} (h : meetsZ a b c d = v) : Calls Tryz.prog 75 #[.int .i64 a, .int .i64 b, .int .i64 c, .int .i64 d] w fun e w' => e = .returned (.bool v) ∧ Below w.heap.size w w' := by
  rw [meets_max] at h
  obtain ⟨p, hp⟩ : ∃ p, max a c = p := ⟨_, rfl⟩
  obtain ⟨q, hq⟩ : ∃ q, min b d = q := ⟨_, rfl⟩
  rw [hp, hq] at h
  have HH := Lib.hid h
  clear h
  go_enter Tryz.func75, Tryz.ntmps75
  go_wp2
  all_goals
    go_ret
    exact ⟨ret_bl (HH.out.symm.trans (decide_eq_decide.2 (by omega))), Below.refl _ _⟩
theorem may_times (h : Hd) : mayH h = (decide (0 < h.things.length) && (rightB h.things && (timeB h.frm && (timeB h.to && decide (h.frm < h.to))))) := by
  unfold timeB
  rw [Bool.eq_iff_iff]
  unfold mayH
  simp only [decide_eq_true_eq, Bool.and_eq_true]
  unfold MayH
  constructor
  · rintro ⟨h1, h2, h3, h4, h5⟩
    exact ⟨h1, h2, ⟨h3, by omega⟩, ⟨by omega, h5⟩, h4⟩
  · rintro ⟨h1, h2, h3, h4, h5⟩
    exact ⟨h1, h2, h3.1, h5, h4.2⟩
theorem time_b {t : Int} {w : World} {b : Bool} (h : timeB t = b) : Calls Tryz.prog 55 #[.int .i64 t] w fun e w' => e = .returned (.bool b) ∧ Below w.heap.size w w' :=
  (whenRight_b t w b h).mono fun _ _ ⟨h1, h2⟩ => ⟨h1, by rw [← h2]; exact Below.refl _ _⟩

set_option maxRecDepth 100000 in
set_option maxHeartbeats 8000000 in
theorem may_any {A : Option Addr} {m c : Nat} {h : Hd} {w : World} {v : Bool} (hh : HAsk w A m c h) (hv : mayH h = v) :
    Calls Tryz.prog 50 #[.agg #[.int .i64 h.id, .slice A m c, .int .i64 h.frm, .int .i64 h.to]] w fun e w' => e = .returned (.bool v) ∧ Below w.heap.size w w' := by
  obtain ⟨W, hW⟩ : ∃ W, W = w.alloc (hO h A m c) := ⟨_, rfl⟩
  have BX : Hid (BoxH W w.heap.size h A m c) := Lib.hid (by rw [hW]; exact boxH_new w h A m c)
  have hb0 : Below w.heap.size w W := by rw [hW]; exact (Below.refl _ _).alloc (Nat.le_refl _) _
  have HB := Lib.hid hb0
  have HH := Lib.hid (hh.next hb0)
  have hml := hh.reads.1
  unfold hO at hW
  rw [may_times, hml] at hv
  have HV := Lib.hid hv
  clear hb0 hh hml hv
  have q0 := BX.out.c0
  have q1 := BX.out.c1
  have q2 := BX.out.c2
  have q3 := BX.out.c3
  by_cases h0 : 0 < m
  · have d0 : decide (0 < m) = true := decide_eq_true h0
    rw [d0, Bool.true_and] at HV
    cases hr : rightB h.things with
    | false =>
      rw [hr, Bool.false_and] at HV
      have HR := Lib.hid hr
      clear hr
      go_enter Tryz.func50, Tryz.ntmps50
      go_wp2_with fail
      rw [← hW]
      clear hW
      refine (s_isSet HH.out.reads HH.out.few HR.out).mono ?_
      rintro e w1 ⟨rfl, hb⟩
      have HB1 := Lib.hid (HB.out.trans (hb.mono HB.out.size))
      have BX1 := Lib.hid (BX.out.next hb)
      clear hb q0 q1 q2 q3
      go_wp2
      go_ret
      exact ⟨by rw [← HV.out]; rfl, HB1.out⟩
    | true =>
      rw [hr, Bool.true_and] at HV
      have HR := Lib.hid hr
      clear hr
      cases hf : timeB h.frm with
      | false =>
        rw [hf, Bool.false_and] at HV
        have HF := Lib.hid hf
        clear hf
        go_enter Tryz.func50, Tryz.ntmps50
        go_wp2_with fail
        rw [← hW]
        clear hW
        refine (s_isSet HH.out.reads HH.out.few HR.out).mono ?_
        rintro e w1 ⟨rfl, hb⟩
        have HB1 := Lib.hid (HB.out.trans (hb.mono HB.out.size))
        have BX1 := Lib.hid (BX.out.next hb)
        clear hb q0 q1 q2 q3
        have q2 := BX1.out.c2
        have q3 := BX1.out.c3
        go_wp2_with fail
        refine (time_b HF.out).mono ?_
        rintro e w2 ⟨rfl, hb⟩
        have HB2 := Lib.hid (HB1.out.trans (hb.mono HB1.out.size))
        clear hb q2 q3
        go_wp2
        go_ret
        exact ⟨by rw [← HV.out]; rfl, HB2.out⟩
      | true =>
        rw [hf, Bool.true_and] at HV
        have HF := Lib.hid hf
        clear hf
        cases ht : timeB h.to with
        | false =>
          rw [ht, Bool.false_and] at HV
          have HT := Lib.hid ht
          clear ht
          go_enter Tryz.func50, Tryz.ntmps50
          go_wp2_with fail
          rw [← hW]
          clear hW
          refine (s_isSet HH.out.reads HH.out.few HR.out).mono ?_
          rintro e w1 ⟨rfl, hb⟩
          have HB1 := Lib.hid (HB.out.trans (hb.mono HB.out.size))
          have BX1 := Lib.hid (BX.out.next hb)
          clear hb q0 q1 q2 q3
          have q2 := BX1.out.c2
          have q3 := BX1.out.c3
          go_wp2_with fail
          refine (time_b HF.out).mono ?_
          rintro e w2 ⟨rfl, hb⟩
          have HB2 := Lib.hid (HB1.out.trans (hb.mono HB1.out.size))
          have BX2 := Lib.hid (BX1.out.next hb)
          clear hb q2 q3
          have q2 := BX2.out.c2
          have q3 := BX2.out.c3
          go_wp2_with fail
          refine (time_b HT.out).mono ?_
          rintro e w3 ⟨rfl, hb⟩
          have HB3 := Lib.hid (HB2.out.trans (hb.mono HB2.out.size))
          clear hb q2 q3
          go_wp2
          go_ret
          exact ⟨by rw [← HV.out]; rfl, HB3.out⟩
        | true =>
          rw [ht, Bool.true_and] at HV
          have HT := Lib.hid ht
          clear ht
          have hv := HV.out
          go_enter Tryz.func50, Tryz.ntmps50
          go_wp2_with fail
          rw [← hW]
          clear hW
          refine (s_isSet HH.out.reads HH.out.few HR.out).mono ?_
          rintro e w1 ⟨rfl, hb⟩
          have HB1 := Lib.hid (HB.out.trans (hb.mono HB.out.size))
          have BX1 := Lib.hid (BX.out.next hb)
          clear hb q0 q1 q2 q3
          have q2 := BX1.out.c2
          have q3 := BX1.out.c3
          go_wp2_with fail
          refine (time_b HF.out).mono ?_
          rintro e w2 ⟨rfl, hb⟩
          have HB2 := Lib.hid (HB1.out.trans (hb.mono HB1.out.size))
          have BX2 := Lib.hid (BX1.out.next hb)
          clear hb q2 q3
          have q2 := BX2.out.c2
          have q3 := BX2.out.c3
          go_wp2_with fail
          refine (time_b HT.out).mono ?_
          rintro e w3 ⟨rfl, hb⟩
          have HB3 := Lib.hid (HB2.out.trans (hb.mono HB2.out.size))
          have BX3 := Lib.hid (BX2.out.next hb)
          clear hb q2 q3
          have q2 := BX3.out.c2
          have q3 := BX3.out.c3
          go_wp2
          all_goals
            go_ret
            exact ⟨ret_bl (by first | rfl | exact HV.out | (rw [← HV.out]; simp_all)), HB3.out⟩
  · have d0 : decide (0 < m) = false := decide_eq_false h0
    rw [d0, Bool.false_and] at HV
    go_enter Tryz.func50, Tryz.ntmps50
    go_wp2_with fail
    rw [← hW]
    clear hW
    go_wp2
    go_ret
    exact ⟨by rw [← HV.out]; rfl, HB.out⟩

end Go.Proofs.YtpoalgkgomljmaaGreatDoor

namespace Go.Proofs.YtpoalgkgomljmaaGreatDoor
open Go.RowKit

section
variable {l : Tb} {h a b : Hd}
theorem short_is (h : shortT l = true) : shortHB l := by
  have := of_decide_eq_true h
  refine ⟨this.1, fun x hx => ?_⟩
  obtain ⟨j, hj, rfl⟩ := List.getElem_of_mem hx
  have h2 := this.2 j hj
  rwa [show l.getD j hd0 = l[j] by simp [List.getD, hj]] at h2
theorem short_few' (h : shortT l = true) : FewT l := short_few (short_is h)
theorem ins_short (hl : shortHB l) (hh : h.things.length ≤ 60) : (insT l h).length ≤ 31 ∧ ∀ x ∈ insT l h, x.things.length ≤ 60 := by
  constructor
  · unfold insT
    have h1 := List.length_filter_le (fun x => decide (x.id < h.id)) l
    have : ∀ l : Tb, (l.filter fun x => decide (x.id < h.id)).length + (l.filter fun x => decide (h.id < x.id)).length ≤ l.length := by
      intro l
      induction l with
      | nil => simp
      | cons x l ih =>
        rw [List.filter_cons, List.filter_cons]
        by_cases h1 : x.id < h.id
        · have h2 : ¬ h.id < x.id := by omega
          simp [h1, h2]; omega
        · by_cases h2 : h.id < x.id <;> simp [h1, h2] <;> omega
    have := this l
    have h3 := hl.1
    simp; omega
  · intro x hx
    rcases mem_ins.1 hx with h1 | rfl
    · exact hl.2 x h1.1
    · exact hh
theorem ins_few (hl : shortHB l) (hh : h.things.length ≤ 60) : FewT (insT l h) := by
  obtain ⟨h1, h2⟩ := ins_short hl hh
  exact ⟨by omega, fun x hx => by have := h2 x hx; omega⟩
theorem add_no (h0 : addE l h ≠ 0) : addT l h = l := if_neg h0
theorem add_yes (hm : MayAdd l h) : addT l h = insT l h := if_pos (add_ok.2 hm)
theorem sameT_self (l : Tb) : sameT' l l = true := sameT_iff.2 rfl
theorem MayAdd.gotT (hm : MayAdd l h) : gotT (insT l h) h.id = true := by
  unfold Go.Proofs.YtpoalgkgomljmaaGreatDoor.gotT
  rw [Bool.and_eq_true]
  exact ⟨rightT_is.2 hm.right', has_iff_id.2 ⟨h, hm.mem.2 (.inr rfl), rfl⟩⟩
theorem MayAdd.gotOld (hm : MayAdd l h) {x : Hd} (hx : x ∈ l) : Go.Proofs.YtpoalgkgomljmaaGreatDoor.gotT (insT l h) x.id = true := by
  unfold Go.Proofs.YtpoalgkgomljmaaGreatDoor.gotT
  rw [Bool.and_eq_true]
  exact ⟨rightT_is.2 hm.right', has_iff_id.2 ⟨x, hm.mem.2 (.inl hx), rfl⟩⟩
theorem MayAdd.dropE (hm : MayAdd l h) : Go.Proofs.YtpoalgkgomljmaaGreatDoor.dropE (insT l h) h.id = 0 := by
  have h1 := hm.gotT
  unfold Go.Proofs.YtpoalgkgomljmaaGreatDoor.gotT at h1
  rw [Bool.and_eq_true] at h1
  unfold Go.Proofs.YtpoalgkgomljmaaGreatDoor.dropE
  rw [h1.1, h1.2]; rfl
theorem MayAdd.dropT (hm : MayAdd l h) : Go.Proofs.YtpoalgkgomljmaaGreatDoor.dropT (insT l h) h.id = l := by
  unfold Go.Proofs.YtpoalgkgomljmaaGreatDoor.dropT
  rw [if_pos hm.dropE]
  exact hm.drop
theorem MayAdd.cutE (hm : MayAdd l h) (z : Int) : Go.Proofs.YtpoalgkgomljmaaGreatDoor.cutE (insT l h) h.id z = if z ≤ h.frm ∨ h.to < z then 1 else 0 := by
  have h1 := hm.gotT
  unfold Go.Proofs.YtpoalgkgomljmaaGreatDoor.gotT at h1
  rw [Bool.and_eq_true] at h1
  unfold Go.Proofs.YtpoalgkgomljmaaGreatDoor.cutE
  rw [h1.1, h1.2, getT_add hm]; rfl
theorem MayAdd.cutT (hm : MayAdd l h) {z : Int} (h1 : h.frm < z) (h2 : z ≤ h.to) : Go.Proofs.YtpoalgkgomljmaaGreatDoor.cutT (insT l h) h.id z = (insT l h).map (shortH h.id z) := by
  unfold Go.Proofs.YtpoalgkgomljmaaGreatDoor.cutT
  rw [if_pos (by rw [hm.cutE]; exact if_neg (by omega))]
  rfl
theorem MayAdd.cut_right (hm : MayAdd l h) {z : Int} (h1 : h.frm < z) (h2 : z ≤ h.to) : rightT ((insT l h).map (shortH h.id z)) = true :=
  rightT_is.2 (Go.Proofs.YtpoalgkgomljmaaGreatDoor.cut_right hm.right' (hm.mem.2 (.inr rfl)) h1 h2)
theorem cut_over {id z : Int} (hr : rightT (l.map (shortH id z)) = true) : gotT (restT (l.map (shortH id z)) z) id = false := by
  unfold gotT
  rw [Bool.and_eq_false_iff]
  right
  rw [hasT_no]
  intro x hx he
  unfold restT at hx
  rw [if_pos hr, List.mem_filter] at hx
  obtain ⟨h1, h2⟩ := hx
  obtain ⟨y, _, rfl⟩ := List.mem_map.1 h1
  rw [short_id] at he
  have : (shortH id z y).to = z := by unfold shortH; rw [if_pos he]
  rw [this] at h2
  simp at h2
theorem over_len (l : Tb) (z : Int) : (restT l z).length + (goneT l z).length = l.length := by
  unfold restT goneT
  split
  · induction l with
    | nil => rfl
    | cons x l ih =>
      have : ∀ l : Tb, (l.filter fun x => decide (z < x.to)).length + (l.filter fun x => decide (x.to ≤ z)).length = l.length := by
        intro l
        induction l with
        | nil => rfl
        | cons x l ih =>
          rw [List.filter_cons, List.filter_cons]
          by_cases h1 : z < x.to
          · have h2 : ¬ x.to ≤ z := by omega
            simp [h1, h2]; omega
          · have h2 : x.to ≤ z := by omega
            simp [h1, h2]; omega
      exact this _
  · simp
theorem map_few {f : Hd → Hd} (hf : ∀ x, (f x).things = x.things) (h : FewT l) : FewT (l.map f) := by
  refine ⟨by simpa using h.1, fun x hx => ?_⟩
  obtain ⟨y, hy, rfl⟩ := List.mem_map.1 hx
  rw [hf]; exact h.2 y hy
theorem rest_few (h : FewT l) (z : Int) : FewT (restT l z) := by
  unfold restT
  split
  · exact ⟨Nat.le_trans (List.length_filter_le _ _) h.1, fun x hx => h.2 x (List.mem_filter.1 hx).1⟩
  · exact h
theorem gone_few (h : FewT l) (z : Int) : (goneT l z).length ≤ 100 := by
  unfold goneT
  split
  · exact Nat.le_trans (List.length_filter_le _ _) h.1
  · simp
theorem busy_len (l : Tb) (a b : Int) : (busyT l a b).length ≤ 256 := by
  unfold busyT
  split
  · exact length_pickL _
  · simp
theorem sumN_at {l : Tb} (t : Int) {k : Nat} (hk : k < l.length) {x : Hd} (hx : l.getD k hd0 = x) : sumN l t (k + 1) = sumN l t k + if meetsZ x.frm x.to t (t + 1) = true then x.things.length else 0 := by
  have h : l[k] = x := by rw [← hx, List.getD, List.getElem?_eq_getElem hk]; rfl
  rw [sumN_succ t hk, h]
theorem sumN_le {l : Tb} (h : shortHB l) (t : Int) : ∀ k, k ≤ l.length → sumN l t k ≤ 60 * k
  | 0, _ => by unfold sumN; simp
  | k + 1, hk => by
    have h1 := sumN_le h t k (by omega)
    have h2 := h.2 l[k] (List.getElem_mem (by omega))
    rw [sumN_succ t (by omega)]
    split <;> omega
theorem sumN_few {l : Tb} (h : shortHB l) (t : Int) {k : Nat} (hk : k ≤ l.length) : sumN l t k ≤ 1800 := by
  have h1 := sumN_le h t k hk
  have h2 := h.1
  omega
theorem addE_bad (hm : mayH h = false) : addE l h = 1 := by
  unfold addE
  rw [if_pos (by rw [hm, Bool.and_false])]
theorem addE_there (hr : rightT l = true) (hm : mayH h = true) (ht : hasT l h.id = true) : addE l h = 7 := by
  unfold addE
  rw [if_neg (by rw [hr, hm]; simp), if_pos ht]
theorem addE_apart (hr : rightT l = true) (hm : mayH h = true) (ht : hasT l h.id = false) (hl : l.length ≤ 30) : (addE l h == 0) = apartB (busyT l h.frm h.to) h.things := by
  have e : addE l h = if (l.any fun x => clashH x h) = true then 5 else 0 := by
    unfold addE
    rw [if_neg (by rw [hr, hm]; simp), if_neg (by rw [ht]; simp)]
    by_cases hc : (l.any fun x => clashH x h) = true
    · rw [if_pos (.inr hc), if_pos hc]
    · rw [if_neg (fun h1 => h1.elim (fun h1 => by omega) hc), if_neg hc]
  have hrh := (of_decide_eq_true hm).2.1
  have ha : apartB (busyT l h.frm h.to) h.things = !(l.any fun x => clashH x h) := by
    rw [Bool.eq_iff_iff]
    unfold apartB
    rw [busy_right, hrh, Bool.true_and, Bool.true_and, List.all_eq_true, Bool.not_eq_true', List.any_eq_false]
    constructor
    · intro hh x hx hcl
      unfold clashH at hcl
      rw [Bool.and_eq_true] at hcl
      obtain ⟨n, h1, h2⟩ := touch_iff.1 hcl.2
      have := hh n ((mem_busy hr).2 ⟨x, hx, hcl.1, h1⟩)
      rw [List.contains_iff_mem.2 h2] at this
      cases this
    · intro hh n hn
      obtain ⟨x, hx, h1, h2⟩ := (mem_busy hr).1 hn
      have := hh x hx
      cases hc : h.things.contains n with
      | false => rfl
      | true =>
        refine absurd ?_ this
        unfold clashH
        rw [h1, touch_iff.2 ⟨n, h2, List.contains_iff_mem.1 hc⟩]
        rfl
  rw [e, ha]
  cases l.any fun x => clashH x h <;> rfl
theorem got_is (hr : rightT l = true) (id : Int) : gotT l id = hasT l id := by unfold gotT; rw [hr, Bool.true_and]
theorem getD_in {l : Tb} {j : Nat} (hj : j < l.length) : l.getD j hd0 ∈ l := by
  rw [List.getD, List.getElem?_eq_getElem hj]; exact List.getElem_mem hj
theorem ends_len (l : Tb) (z : Int) : (endsT l z).length ≤ l.length := by
  unfold endsT
  split
  · have key : ∀ (x : Int) (l : List Int), (insZ x l).length ≤ l.length + 1 := by
      intro x l
      induction l with
      | nil => simp [insZ]
      | cons y r ih =>
        unfold insZ
        split
        · simp
        · split <;> simp
          omega
    have h1 : ∀ l : List Int, (l.foldr insZ []).length ≤ l.length := by
      intro l
      induction l with
      | nil => simp
      | cons x r ih =>
        have := key x (r.foldr insZ [])
        simp only [List.foldr_cons, List.length_cons]
        omega
    have h2 := h1 ((l.map Hd.to).filter fun t => decide (z < t))
    have h3 := List.length_filter_le (fun t : Int => decide (z < t)) (l.map Hd.to)
    rw [List.length_map] at h3
    omega
  · simp
end
section
variable {A : Option Addr} {n c : Nat} {A2 : Option Addr} {n2 c2 : Nat} {l a b : Tb} {w : World}
theorem short_b (hl : TAsk w A n c l) {v : Bool} (e : shortT l = v) : Calls Tryz.prog 28 #[.slice A n c] w fun e w' => e = .returned (.bool v) ∧ Below w.heap.size w w' := by
  subst e
  refine (refShortT_any A n c l w hl.reads hl.few).mono ?_
  rintro e w' ⟨rfl, rfl⟩
  exact ⟨rfl, Below.refl _ _⟩
theorem sameT_b (ha : TAsk w A n c a) (hb : TAsk w A2 n2 c2 b) {v : Bool} (e : sameT' a b = v) : Calls Tryz.prog 17 #[.slice A n c, .slice A2 n2 c2] w fun e w' => e = .returned (.bool v) ∧ Below w.heap.size w w' := by
  subst e; exact refSameT_any A n c A2 n2 c2 a b w ha.reads hb.reads ha.few hb.few
end

end Go.Proofs.YtpoalgkgomljmaaGreatDoor

namespace Go.Proofs.YtpoalgkgomljmaaGreatDoor
open Go.RowKit

def SmallS (n n2 n3 : Nat) (l : Tb) (n4 : Nat) : Prop := n ≤ 40 ∧ n2 ≤ 60 ∧ n3 ≤ 12 ∧ shortT l = true ∧ n4 ≤ 8
instance (n n2 n3 : Nat) (l : Tb) (n4 : Nat) : Decidable (SmallS n n2 n3 l n4) := by unfold SmallS; infer_instance
theorem short_fewS {l : Tb} (h : shortT l = true) : FewT l := by
  have h1 := of_decide_eq_true h
  refine ⟨by omega, fun x hx => ?_⟩
  obtain ⟨i, hi, e⟩ := List.getElem_of_mem hx
  have := h1.2 i hi
  rw [List.getD, List.getElem?_eq_getElem hi] at this
  simp only [Option.getD_some] at this
  rw [← e]; omega
set_option maxRecDepth 100000 in
set_option maxHeartbeats 8000000 in
theorem smallS_b {A A2 A3 A4 : Option Addr} {n c n2 c2 n3 c3 n4 c4 : Nat} {l : Tb} {w : World} {v : Bool} (hl : TAsk w A3 n3 c3 l) (hv : decide (SmallS n n2 n3 l n4) = v) : Calls Tryz.prog 8 #[.slice A n c, .slice A2 n2 c2, .slice A3 n3 c3, .slice A4 n4 c4] w fun e w' => e = .returned (.bool v) ∧ Below w.heap.size w w' := by
  have TA := Lib.hid hl
  clear hl
  by_cases h1 : n ≤ 40
  rotate_left
  · have HV : Hid (v = false) := Lib.hid (by rw [← hv]; exact decide_eq_false fun h => by exact h1 h.1)
    have dn : decide ((n : Nat) ≤ 40) = false := decide_eq_false (by omega)
    have zzn : decide (((n : Nat) : Int) ≤ 40) = false := decide_eq_false (by omega)
    clear hv
    go_enter Tryz.func8, Tryz.ntmps8
    go_wp2
    go_ret
    exact ⟨by rw [HV.out]; rfl, Below.refl _ _⟩
  by_cases h2 : n2 ≤ 60
  rotate_left
  · have HV : Hid (v = false) := Lib.hid (by rw [← hv]; exact decide_eq_false fun h => by exact h2 h.2.1)
    have dn : decide ((n : Nat) ≤ 40) = true := decide_eq_true (by omega)
    have zzn : decide (((n : Nat) : Int) ≤ 40) = true := decide_eq_true (by omega)
    have dn2 : decide ((n2 : Nat) ≤ 60) = false := decide_eq_false (by omega)
    have zzn2 : decide (((n2 : Nat) : Int) ≤ 60) = false := decide_eq_false (by omega)
    clear hv
    go_enter Tryz.func8, Tryz.ntmps8
    go_wp2
    go_ret
    exact ⟨by rw [HV.out]; rfl, Below.refl _ _⟩
  by_cases h3 : n3 ≤ 12
  rotate_left
  · have HV : Hid (v = false) := Lib.hid (by rw [← hv]; exact decide_eq_false fun h => by exact h3 h.2.2.1)
    have dn : decide ((n : Nat) ≤ 40) = true := decide_eq_true (by omega)
    have zzn : decide (((n : Nat) : Int) ≤ 40) = true := decide_eq_true (by omega)
    have dn2 : decide ((n2 : Nat) ≤ 60) = true := decide_eq_true (by omega)
    have zzn2 : decide (((n2 : Nat) : Int) ≤ 60) = true := decide_eq_true (by omega)
    have dn3 : decide ((n3 : Nat) ≤ 12) = false := decide_eq_false (by omega)
    have zzn3 : decide (((n3 : Nat) : Int) ≤ 12) = false := decide_eq_false (by omega)
    clear hv
    go_enter Tryz.func8, Tryz.ntmps8
    go_wp2
    go_ret
    exact ⟨by rw [HV.out]; rfl, Below.refl _ _⟩
  cases hs : shortT l with
  | false =>
    have HSH := Lib.hid hs
    have HV : Hid (v = false) := Lib.hid (by rw [← hv]; exact decide_eq_false fun h => by rw [h.2.2.2.1] at hs; cases hs)
    have dn : decide ((n : Nat) ≤ 40) = true := decide_eq_true (by omega)
    have zzn : decide (((n : Nat) : Int) ≤ 40) = true := decide_eq_true (by omega)
    have dn2 : decide ((n2 : Nat) ≤ 60) = true := decide_eq_true (by omega)
    have zzn2 : decide (((n2 : Nat) : Int) ≤ 60) = true := decide_eq_true (by omega)
    have dn3 : decide ((n3 : Nat) ≤ 12) = true := decide_eq_true (by omega)
    have zzn3 : decide (((n3 : Nat) : Int) ≤ 12) = true := decide_eq_true (by omega)
    clear hv hs
    go_enter Tryz.func8, Tryz.ntmps8
    go_wp2_with fail
    refine (short_b TA.out HSH.out).mono ?_
    rintro e w1 ⟨rfl, hb⟩
    have HB := Lib.hid hb
    clear hb
    go_wp2
    go_ret
    exact ⟨by rw [HV.out]; rfl, HB.out⟩
  | true =>
    have HSH := Lib.hid hs
    by_cases h4 : n4 ≤ 8
    · have HV : Hid (v = true) := Lib.hid (by rw [← hv]; exact decide_eq_true ⟨h1, h2, h3, hs, h4⟩)
      have dn : decide ((n : Nat) ≤ 40) = true := decide_eq_true (by omega)
      have zzn : decide (((n : Nat) : Int) ≤ 40) = true := decide_eq_true (by omega)
      have dn2 : decide ((n2 : Nat) ≤ 60) = true := decide_eq_true (by omega)
      have zzn2 : decide (((n2 : Nat) : Int) ≤ 60) = true := decide_eq_true (by omega)
      have dn3 : decide ((n3 : Nat) ≤ 12) = true := decide_eq_true (by omega)
      have zzn3 : decide (((n3 : Nat) : Int) ≤ 12) = true := decide_eq_true (by omega)
      have dn4 : decide ((n4 : Nat) ≤ 8) = true := decide_eq_true (by omega)
      have zzn4 : decide (((n4 : Nat) : Int) ≤ 8) = true := decide_eq_true (by omega)
      clear hv hs
      go_enter Tryz.func8, Tryz.ntmps8
      go_wp2_with fail
      refine (short_b TA.out HSH.out).mono ?_
      rintro e w1 ⟨rfl, hb⟩
      have HB := Lib.hid hb
      clear hb
      go_wp2
      go_ret
      exact ⟨by rw [HV.out]; rfl, HB.out⟩
    · have HV : Hid (v = false) := Lib.hid (by rw [← hv]; exact decide_eq_false fun h => h4 h.2.2.2.2)
      have dn : decide ((n : Nat) ≤ 40) = true := decide_eq_true (by omega)
      have zzn : decide (((n : Nat) : Int) ≤ 40) = true := decide_eq_true (by omega)
      have dn2 : decide ((n2 : Nat) ≤ 60) = true := decide_eq_true (by omega)
      have zzn2 : decide (((n2 : Nat) : Int) ≤ 60) = true := decide_eq_true (by omega)
      have dn3 : decide ((n3 : Nat) ≤ 12) = true := decide_eq_true (by omega)
      have zzn3 : decide (((n3 : Nat) : Int) ≤ 12) = true := decide_eq_true (by omega)
      have dn4 : decide ((n4 : Nat) ≤ 8) = false := decide_eq_false (by omega)
      have zzn4 : decide (((n4 : Nat) : Int) ≤ 8) = false := decide_eq_false (by omega)
      clear hv hs
      go_enter Tryz.func8, Tryz.ntmps8
      go_wp2_with fail
      refine (short_b TA.out HSH.out).mono ?_
      rintro e w1 ⟨rfl, hb⟩
      have HB := Lib.hid hb
      clear hb
      go_wp2
      go_ret
      exact ⟨by rw [HV.out]; rfl, HB.out⟩

end Go.Proofs.YtpoalgkgomljmaaGreatDoor

namespace Go.Proofs.YtpoalgkgomljmaaGreatDoor

/-- is a thing held at a time of the span, by the holdings as they stand -/
def meetB (h : Hd) (a b x : Int) : Bool := decide (h.frm < b) && (decide (a < h.to) && hasB h.things x)
def rawB (l : Tb) (a b x : Int) : Bool := l.any fun h => meetB h a b x
def rawFree (use : List Int) (l : Tb) (a b : Int) : List Int := use.filter fun x => !rawB l a b x
section
variable {g : Gr} {use : List Int} {l : Tb} {s : Sp} {a b x : Int} {k : Nat}
theorem getD_hdS (h : k < l.length) : l.getD k hd0 = l[k] := by rw [List.getD, List.getElem?_eq_getElem h]; rfl
theorem raw_step (h : k < l.length) : rawB (l.take (k + 1)) a b x = (rawB (l.take k) a b x || meetB (l.getD k hd0) a b x) := by
  unfold rawB
  rw [List.take_succ_eq_append_getElem h, List.any_append, getD_hdS h]
  simp
theorem right_filter (p : Int → Bool) : ∀ {l : List Int}, rightB l = true → rightB (l.filter p) = true
  | [], _ => (show rightB [] = true by decide)
  | x :: r, h => by
    have ih := right_filter p (right_tail h)
    rw [List.filter_cons]
    split
    · exact right_cons (right_head h) ih fun y hy => right_below h y (List.mem_filter.1 hy).1
    · exact ih
/-- of a table that is right, and a span that isn't empty: what isn't held is what isn't busy -/
theorem raw_free (hl : rightT l = true) (hu : rightB use = true) (hab : a < b) : rawFree use l a b = freeS use l a b := by
  refine right_ext (right_filter _ hu) freeS_right fun n => ?_
  unfold rawFree
  rw [List.mem_filter, mem_freeS hu, mem_busy hl]
  refine and_congr_right fun _ => ?_
  unfold rawB
  rw [Bool.not_eq_true', Bool.eq_false_iff, Ne, List.any_eq_true]
  refine not_congr ⟨fun ⟨y, hy, h⟩ => ⟨y, hy, ?_⟩, fun ⟨y, hy, h1, h2⟩ => ⟨y, hy, ?_⟩⟩
  · unfold meetB at h
    rw [Bool.and_eq_true, Bool.and_eq_true, decide_eq_true_eq, decide_eq_true_eq] at h
    obtain ⟨h1, h2, h3⟩ := h
    have hy2 := ((rightT_is.1 hl).may y hy).2.2.2.1
    unfold meetsZ
    unfold hasB at h3
    rw [Bool.and_eq_true] at h3
    exact ⟨decide_eq_true ⟨hy2, hab, h1, h2⟩, List.contains_iff_mem.1 h3.2⟩
  · unfold meetsZ at h1
    have h1' := of_decide_eq_true h1
    unfold meetB hasB
    rw [Bool.and_eq_true, Bool.and_eq_true, Bool.and_eq_true, decide_eq_true_eq, decide_eq_true_eq]
    exact ⟨h1'.2.2.1, h1'.2.2.2, ((rightT_is.1 hl).may y hy).2.1, List.contains_iff_mem.2 h2⟩
/-- what the walk through all things comes to -/
theorem at_is {u t : Int} (h0 : 0 ≤ t) (h1 : t < 4611686018427387904) (hl : rightT l = true) (hu : rightB use = true) (he : endsS s t ≤ u) :
    hadB g (rawFree use l t (endsS s t)) s = decide (FitsS g use l s u t) ∧ findL g (rawFree use l t (endsS s t)) s = gotS g use l s u t := by
  cases hs : rightS s with
  | true =>
    rw [raw_free hl hu (endsS_after hs h0 h1)]
    cases hh : hadB g (freeS use l t (endsS s t)) s with
    | true =>
      have hf : FitsS g use l s u t := ⟨⟨h0, h1⟩, hl, hu, he, hh⟩
      exact ⟨(decide_eq_true hf).symm, (gotS_is hf).symm⟩
    | false =>
      have hf : ¬ FitsS g use l s u t := fun h => by rw [h.2.2.2.2] at hh; cases hh
      exact ⟨(decide_eq_false hf).symm, by rw [gotS_no hf]; unfold findL; rw [if_neg (by rw [hh]; decide)]⟩
  | false =>
    have hf : ¬ FitsS g use l s u t := fun h => by rw [(fits_spec h).2] at hs; cases hs
    have hh : hadB g (rawFree use l t (endsS s t)) s = false := by
      rw [Bool.eq_false_iff]
      intro h
      have := mayB_is (hadB_is.1 h).1
      rw [this.2.2] at hs; cases hs
    exact ⟨by rw [hh, decide_eq_false hf], by rw [gotS_no hf]; unfold findL; rw [if_neg (by rw [hh]; decide)]⟩
/-- of the holdings up to the k-th and the span's beginning: is it the first that fits -/
def BestK (g : Gr) (use : List Int) (l : Tb) (s : Sp) (frm u : Int) (k : Nat) (best : Int) : Prop :=
  (best = -1 ∧ ∀ t, (t = frm ∨ (frm ≤ t ∧ ∃ i, i < k ∧ (l.getD i hd0).to = t)) → ¬ FitsS g use l s u t) ∨
  (0 ≤ best ∧ (best = frm ∨ (frm ≤ best ∧ ∃ i, i < k ∧ (l.getD i hd0).to = best)) ∧ FitsS g use l s u best ∧ ∀ t, (t = frm ∨ (frm ≤ t ∧ ∃ i, i < k ∧ (l.getD i hd0).to = t)) → FitsS g use l s u t → best ≤ t)
theorem times_iff {frm t : Int} : (t = frm ∨ (frm ≤ t ∧ ∃ i, i < l.length ∧ (l.getD i hd0).to = t)) ↔ t ∈ timesS l frm := by
  rw [mem_timesS]
  constructor
  · rintro (h | ⟨h, i, hi, e⟩)
    · exact .inl h
    · by_cases h2 : t = frm
      · exact .inl h2
      · exact .inr ⟨by omega, l[i], List.getElem_mem hi, by rw [← e, getD_hdS hi]⟩
  · rintro (h | ⟨h, x, hx, e⟩)
    · exact .inl h
    · obtain ⟨i, hi, e2⟩ := List.getElem_of_mem hx
      exact .inr ⟨by omega, i, hi, by rw [getD_hdS hi, e2, e]⟩
theorem best_none {frm u best : Int} (h : BestK g use l s frm u l.length best) (hb : best < 0) : firstS g use l s frm u = none := by
  rcases h with ⟨_, h⟩ | ⟨h, _⟩
  · exact firstS_none.2 fun t ht => h t (times_iff.2 ht)
  · omega
theorem best_some {frm u best : Int} (h : BestK g use l s frm u l.length best) (hb : ¬ best < 0) : firstS g use l s frm u = some best := by
  rcases h with ⟨h, _⟩ | ⟨_, h1, h2, h3⟩
  · omega
  · exact firstS_some.2 ⟨⟨times_iff.1 h1, h2⟩, fun t ht hf => h3 t (times_iff.2 ht) hf⟩
theorem best_from {frm u : Int} (h0 : FitsS g use l s u frm) : BestK g use l s frm u 0 frm := by
  refine .inr ⟨h0.1.1, .inl rfl, h0, fun t ht _ => ?_⟩
  rcases ht with h | ⟨h, _⟩ <;> omega
theorem best_no {frm u : Int} (h0 : ¬ FitsS g use l s u frm) : BestK g use l s frm u 0 (-1) := by
  refine .inl ⟨rfl, fun t ht => ?_⟩
  rcases ht with h | ⟨_, i, hi, _⟩
  · rw [h]; exact h0
  · omega
theorem best_kfits {frm u best : Int} (hbk : BestK g use l s frm u k best) (hf : FitsS g use l s u (l.getD k hd0).to) (h1 : frm ≤ (l.getD k hd0).to) (h2 : best < 0 ∨ (l.getD k hd0).to < best) : BestK g use l s frm u (k + 1) (l.getD k hd0).to := by
  refine .inr ⟨hf.1.1, .inr ⟨h1, k, Nat.lt_succ_self k, rfl⟩, hf, fun t ht hft => ?_⟩
  have hold : (t = frm ∨ (frm ≤ t ∧ ∃ i, i < k ∧ (l.getD i hd0).to = t)) ∨ t = (l.getD k hd0).to := by
    rcases ht with h | ⟨h, i, hi, e⟩
    · exact .inl (.inl h)
    · by_cases hik : i = k
      · subst hik; exact .inr e.symm
      · exact .inl (.inr ⟨h, i, by omega, e⟩)
  rcases hold with h3 | h3
  · rcases hbk with ⟨_, h⟩ | ⟨_, _, _, h⟩
    · exact absurd hft (h t h3)
    · have h5 := h t h3 hft
      clear h3 h ht hft
      omega
  · rw [h3]; exact Int.le_refl _
theorem best_skip {frm u best : Int} (hbk : BestK g use l s frm u k best) (hs : (l.getD k hd0).to < frm ∨ (0 ≤ best ∧ best ≤ (l.getD k hd0).to) ∨ ¬ FitsS g use l s u (l.getD k hd0).to) : BestK g use l s frm u (k + 1) best := by
  have hold : ∀ t, (t = frm ∨ (frm ≤ t ∧ ∃ i, i < k + 1 ∧ (l.getD i hd0).to = t)) → (t = frm ∨ (frm ≤ t ∧ ∃ i, i < k ∧ (l.getD i hd0).to = t)) ∨ (t = (l.getD k hd0).to ∧ frm ≤ t) := by
    rintro t (h | ⟨h, i, hi, e⟩)
    · exact .inl (.inl h)
    · by_cases hik : i = k
      · subst hik; exact .inr ⟨e.symm, h⟩
      · exact .inl (.inr ⟨h, i, by omega, e⟩)
  rcases hbk with ⟨h1, h2⟩ | ⟨h1, h2, h3, h4⟩
  · refine .inl ⟨h1, fun t ht => ?_⟩
    rcases hold t ht with h5 | ⟨h5, h6⟩
    · exact h2 t h5
    · rcases hs with hs | hs | hs
      · omega
      · omega
      · rw [h5]; exact hs
  · refine .inr ⟨h1, h2.imp id fun ⟨h5, i, hi, e⟩ => ⟨h5, i, by omega, e⟩, h3, fun t ht hf => ?_⟩
    rcases hold t ht with h5 | ⟨h5, h6⟩
    · exact h4 t h5 hf
    · rcases hs with hs | hs | hs
      · omega
      · omega
      · rw [h5] at hf; exact absurd hf hs
/-- what is got at the best so far -/
def gotK (g : Gr) (use : List Int) (l : Tb) (s : Sp) (u best : Int) : List Int := if best < 0 then [] else gotS g use l s u best
theorem first_none {frm u : Int} (h : firstS g use l s frm u = none) : firstAtS g use l s frm u = 0 ∧ firstLS g use l s frm u = [] ∧ firstBS g use l s frm u = false := by
  unfold firstAtS firstLS firstBS
  rw [h]; exact ⟨rfl, rfl, rfl⟩
theorem first_some {frm u t : Int} (h : firstS g use l s frm u = some t) : firstAtS g use l s frm u = t ∧ firstLS g use l s frm u = gotS g use l s u t ∧ firstBS g use l s frm u = true := by
  unfold firstAtS firstLS firstBS
  rw [h]; exact ⟨rfl, rfl, rfl⟩
end

end Go.Proofs.YtpoalgkgomljmaaGreatDoor
