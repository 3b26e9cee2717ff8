/- The program's own, and slices.Clone of holdings: copies in memory of their own. The reference's Plus (bailiwickref02): a time and a length further on, at most Never; of any two numbers. The program's functions of layer 2 (when) that layer 3 calls: Right, Within, Plus: what they answer of any numbers. The program's when.Meets and may of layer 10: do two spans meet; may a holding be. Plain facts that the statements of layer 10 ask for. Words for memory: several rows of one's own that grow beside one another, whose elements read older memory alone. General: nothing of the program stands here. The reference's Over of layer 10. Written by gen/gen_heldref6.py. Plain facts: what sorting and Compact make of times: the times, rising, none twice. No program's text is walked here. -/
import Derived.Test.YtbiofikijehlcaaMg06
import Derived.Test.YtbiofikijehlcaaMg02
import Derived.LoopTactic
import Derived.Test.YtbiofikijehlcaaMg01
import Derived.Below
import Derived.Test.YtbiofikijehlcaaMg03
import Derived.Test.YtbiofikijehlcaaMg04
import Derived.Lib.SlicesCompact
namespace Go.Proofs.Ytbiofikijehlcaa
open Go.RowKit

theorem BoxH.set {wr : World} {g j : Nat} {h h' : Hd} {A A' : Option Addr} {m c m' c' : Nat} {v : Value} (x : BoxH wr g h A m c) (e : (#[.int .i64 h.id, .slice A m c, .int .i64 h.frm, .int .i64 h.to] : Array Value).setIfInBounds j v = #[.int .i64 h'.id, .slice A' m' c', .int .i64 h'.frm, .int .i64 h'.to]) : BoxH (wr.setCell ⟨g, j, none⟩ v) g h' A' m' c' := by
  refine ⟨by simpa [World.setCell] using x.lt, ?_⟩
  show (wr.heap.modify g _)[g]? = _
  rw [Array.getElem?_modify, if_pos rfl, x.at']
  unfold hO
  simp only [Option.map_some]
  rw [← e]
  rfl
theorem BoxH.other {wr : World} {g b j : Nat} {h : Hd} {A : Option Addr} {m c : Nat} {v : Value} (x : BoxH wr g h A m c) (hb : g ≠ b) : BoxH (wr.setCell ⟨b, j, none⟩ v) g h A m c :=
  ⟨by simpa [World.setCell] using x.lt, (Below.heap_setCell _ _ _ _ hb).trans x.at'⟩

theorem own_keep {w wr : World} {B C n : Nat} {t : TypeId} {v : Value} {fl : List Value} (h : wr.ownsRow B t C v n fl) (hk : ∀ b, B ≤ b → w.heap[b]? = wr.heap[b]?) : w.ownsRow B t C v n fl := by
  refine ⟨h.1, h.2.imp id ?_⟩
  rintro ⟨g, cap, cur, e1, e2, e3, e4⟩
  exact ⟨g, cap, cur, e1, e2, (hk g e2).trans e3, e4⟩

/-- numbers in a row of one's own, which lies behind what was there -/
theorem rn_own {w : World} {base n c : Nat} {A : Option Addr} {t : TypeId} {xs : List Int} (h : w.ownsRow base t 1 (.slice A n c) n (xs.map (Value.int .i64))) : RN EI 1 w (fun b => base ≤ b ∧ b < w.heap.size) A n xs := by
  have hl : xs.length = n := by have := h.1; rw [List.length_map] at this; omega
  refine ⟨hl, fun h0 => ?_⟩
  rcases h.2 with ⟨_, e⟩ | ⟨g, cap, cur, e, _⟩
  · omega
  · injection e with e1 e2 e3
    subst e1 e3
    refine ⟨g, 0, rfl, h.lt g rfl, fun j x hx => ⟨[.int .i64 x], rfl, fun i v hv => ?_, rfl⟩⟩
    have hj := (List.getElem?_eq_some_iff.1 hx).1
    have hi : i = 0 := by have := (List.getElem?_eq_some_iff.1 hv).1; simpa using this
    subst hi
    have hv' : Value.int .i64 x = v := by simpa using hv
    subst hv'
    rw [show 0 + (j * 1 + 0) = j by omega, h.cellAt j (by omega), List.getElem?_map, hx]
    rfl

set_option maxRecDepth 100000 in
set_option maxHeartbeats 8000000 in
theorem own_any (A : Option Addr) (m c : Nat) (h : Hd) (w : World) (hh : HAsk w A m c h) (hm : m ≤ 1000) :
    Calls Try.prog 39 #[.agg #[.int .i64 h.id, .slice A m c, .int .i64 h.frm, .int .i64 h.to]] w fun e w' => (∃ A2 c2, e = .returned (.agg #[.int .i64 h.id, .slice A2 m c2, .int .i64 h.frm, .int .i64 h.to]) ∧ HAsk w' A2 m c2 h ∧ EH w' (fun b => w.heap.size ≤ b ∧ b < w'.heap.size) h [.int .i64 h.id, .slice A2 m c2, .int .i64 h.frm, .int .i64 h.to]) ∧ Below w.heap.size w w' := by
  obtain ⟨W, hW⟩ : ∃ W, W = (w.alloc (hO h A m c)).alloc (hO hd0 none 0 0) := ⟨_, rfl⟩
  have hb0 : Below w.heap.size w W := by rw [hW]; exact ((Below.refl _ _).alloc (Nat.le_refl _) _).alloc (by simp) _
  have BX : Hid (BoxH W w.heap.size h A m c) := Lib.hid (by
    rw [hW]; exact (boxH_new w h A m c).next ((Below.refl _ _).alloc (Nat.le_refl _) _))
  have BR : Hid (BoxH W (w.heap.size + 1) hd0 none 0 0) := Lib.hid (by
    have := boxH_new (w.alloc (hO h A m c)) hd0 none 0 0
    rw [World.size_alloc] at this
    rw [hW]; exact this)
  have HB := Lib.hid hb0
  have HH := Lib.hid (hh.next hb0)
  have HSW : Hid (W.heap.size = w.heap.size + 2) := Lib.hid (by rw [hW]; simp)
  unfold hO at hW
  have hml : m = h.things.length := hh.reads.1.symm
  have HML := Lib.hid hml
  clear hb0 hh hml
  have q0 := BX.out.c0
  have q1 := BX.out.c1
  have q2 := BX.out.c2
  have q3 := BX.out.c3
  go_enter Try.func39, Try.ntmps39
  go_wp2_with fail
  simp only [hd0] at hW
  rw [← hW]
  clear hW
  refine (clone_any _ _ _ _ _ HH.out.reads HH.out.nil hm).mono ?_
  rintro e w1 ⟨v, rfl, hon⟩
  obtain ⟨A2, c2, rfl, hn2, hc2⟩ := hon.form
  have hb := hon.below
  have HB1 := Lib.hid (HB.out.trans (hb.mono HB.out.size))
  have BX1 := Lib.hid (BX.out.next hb)
  have BR1 := Lib.hid (BR.out.next hb)
  have HO : Hid (w1.ownsRow W.heap.size 3 1 (.slice A2 h.things.length c2) h.things.length (h.things.map (Value.int .i64))) := Lib.hid (on_own hon).1
  have HF : Hid ((A2 = none → c2 = 0) ∧ h.things.length ≤ c2) := Lib.hid ⟨hn2, hc2⟩
  have HSZ : Hid (w.heap.size + 2 = W.heap.size) := Lib.hid (by rw [HSW.out])
  have hlen : h.things.length = m := HML.out.symm
  rw [hlen] at HO HF ⊢
  clear hon hb hn2 hc2 hlen q0 q1 q2 q3
  have q0 := BX1.out.c0
  have q1 := BX1.out.c1
  have q2 := BX1.out.c2
  have q3 := BX1.out.c3
  have z0 := BX1.out.frozen 0
  have z1 := BX1.out.frozen 1
  have p0 := BR1.out.c0
  have p1 := BR1.out.c1
  have p2 := BR1.out.c2
  have p3 := BR1.out.c3
  have y0 := BR1.out.frozen 0
  have y1 := BR1.out.frozen 1
  have y2 := BR1.out.frozen 2
  have y3 := BR1.out.frozen 3
  go_wp2
  have b1 : BoxH ((((w1.setCell ⟨w.heap.size, 1, none⟩ (.slice A2 m c2)).setCell ⟨w.heap.size + 1, 0, none⟩ (.int .i64 h.id)).setCell ⟨w.heap.size + 1, 1, none⟩ (.slice A2 m c2)).setCell ⟨w.heap.size + 1, 2, none⟩ (.int .i64 h.frm) |>.setCell ⟨w.heap.size + 1, 3, none⟩ (.int .i64 h.to)) (w.heap.size + 1) h A2 m c2 :=
    (((((BR1.out.other (by omega)).set (h' := ⟨h.id, [], 0, 0⟩) rfl).set (h' := ⟨h.id, [], 0, 0⟩) rfl).set (h' := ⟨h.id, [], h.frm, 0⟩) rfl).set (h' := h) rfl)
  have hbel : Below w.heap.size w ((((w1.setCell ⟨w.heap.size, 1, none⟩ (.slice A2 m c2)).setCell ⟨w.heap.size + 1, 0, none⟩ (.int .i64 h.id)).setCell ⟨w.heap.size + 1, 1, none⟩ (.slice A2 m c2)).setCell ⟨w.heap.size + 1, 2, none⟩ (.int .i64 h.frm) |>.setCell ⟨w.heap.size + 1, 3, none⟩ (.int .i64 h.to)) :=
    ((((HB1.out.setCell (p := ⟨_, _, none⟩) (Nat.le_refl _) _).setCell (p := ⟨_, _, none⟩) (Nat.le_succ _) _).setCell (p := ⟨_, _, none⟩) (Nat.le_succ _) _).setCell (p := ⟨_, _, none⟩) (Nat.le_succ _) _).setCell (p := ⟨_, _, none⟩) (Nat.le_succ _) _
  have hown : ((((w1.setCell ⟨w.heap.size, 1, none⟩ (.slice A2 m c2)).setCell ⟨w.heap.size + 1, 0, none⟩ (.int .i64 h.id)).setCell ⟨w.heap.size + 1, 1, none⟩ (.slice A2 m c2)).setCell ⟨w.heap.size + 1, 2, none⟩ (.int .i64 h.frm) |>.setCell ⟨w.heap.size + 1, 3, none⟩ (.int .i64 h.to)).ownsRow W.heap.size 3 1 (.slice A2 m c2) m (h.things.map (Value.int .i64)) :=
    own_keep HO.out fun b hb => by
      have := HSZ.out
      rw [Below.heap_setCell _ _ _ _ (show b ≠ w.heap.size + 1 by omega), Below.heap_setCell _ _ _ _ (show b ≠ w.heap.size + 1 by omega), Below.heap_setCell _ _ _ _ (show b ≠ w.heap.size + 1 by omega), Below.heap_setCell _ _ _ _ (show b ≠ w.heap.size + 1 by omega), Below.heap_setCell _ _ _ _ (show b ≠ w.heap.size by omega)]
  have r0 := b1.c0
  have r1 := b1.c1
  have r2 := b1.c2
  have r3 := b1.c3
  refine bodyPost_ret (v := .agg #[.int .i64 h.id, .slice A2 m c2, .int .i64 h.frm, .int .i64 h.to]) (by simp [results, Try.results39, go_sem, r0, r1, r2, r3]) rfl ⟨⟨A2, c2, rfl, ⟨RI.of_own hown, HF.out.1, HF.out.2, by unfold maxLen; omega, HH.out.int⟩, ⟨A2, m, c2, rfl, (rn_own hown).keep ei_steady (fun _ _ => rfl) (fun b hb => ⟨by have := HSZ.out; omega, hb.2⟩), HF.out.1, HF.out.2, by unfold maxLen; omega, HH.out.int⟩⟩, hbel⟩

set_option maxRecDepth 100000 in
set_option maxHeartbeats 2000000 in
/-- a clone of a table lies in memory of its own; what its holdings reach is as it was -/
theorem cloneQ_any (B : Nat) (A : Option Addr) (n c : Nat) (l : Tb) (w : World) (hB : B ≤ w.heap.size) (hr : RT w B A n l) (hnil : A = none → c = 0) (hn : n ≤ 1000) :
    Calls Try.prog 44 #[.slice A n c] w fun e w' => ∃ v, e = .returned v ∧ Below w.heap.size w w' ∧ RowQ EH 4 36 (Lt B) w.heap.size v l w' := by
  obtain ⟨i0, hi0, hz0, hz1, hz2⟩ : ∃ i, Try.prog.info? 36 = some i ∧ i.zero = some (.agg #[.int .i64 0, .slice none 0 0, .int .i64 0, .int .i64 0]) ∧ i.size = 4 ∧ i.bytes = 48 := info_parts held_info
  have HR := Lib.hid hr
  have q22 : ∀ (w : World) (a : Option Addr) (n c n' c' : Nat), (binOp .eql 22 (.slice a n c) (.slice none n' c')).run Try.prog w = .ok (.bool a.isNone) w := fun w a n c n' c' => Lib.run_eql_slice_nil w _ _ a n c n' c' Try.underlying22
  cases A with
  | none =>
    obtain rfl := hnil rfl
    have hn0 : n = 0 := by
      rcases Nat.eq_zero_or_pos n with h0 | h0
      · exact h0
      · obtain ⟨b, off, e', _⟩ := hr.2 h0; cases e'
    subst hn0
    have hxs : Hid (l = []) := Lib.hid (List.eq_nil_of_length_eq_zero hr.1)
    clear hr hnil hn
    go_enter Try.func44, Try.ntmps44
    go_wp2
    go_ret
    exact ⟨_, rfl, Below.refl _ _, by rw [hxs.out]; exact ⟨[], by simpa using World.ownsRow_nil w w.heap.size 36 4, fun j x h => by simp at h⟩⟩
  | some ad =>
    obtain ⟨fl, f1, f2, f3⟩ : ∃ fl : List Value, fl.length = n * 4 ∧ (∀ j u, fl[j]? = some u → w.cell? (ad.add j) = some u) ∧ ∀ j x, l[j]? = some x → EH w (Lt B) x ((fl.drop (j * 4)).take 4) := by
      rcases Nat.eq_zero_or_pos n with h0 | h0
      · subst h0
        have : l = [] := List.eq_nil_of_length_eq_zero hr.1
        subst this
        exact ⟨[], rfl, fun j u h => by simp at h, fun j x h => by simp at h⟩
      · obtain ⟨b, off, e, hb, hc⟩ := hr.2 h0
        injection e with e
        subst e
        obtain ⟨fl, k1, k2, k3⟩ := flat_of (C := 4) l off hc
        exact ⟨fl, by rw [k1, hr.1], fun j u hu => by rw [show (⟨b, off, none⟩ : Addr).add j = ⟨b, off + j, none⟩ by unfold Addr.add; split <;> simp_all]; exact k2 j u hu, k3⟩
    have F1 := Lib.hid f1
    have F2 : Hid (∀ j u, fl[j]? = some u → (w.alloc (.cells #[] 36)).cell? (ad.add j) = some u) := Lib.hid (fun j u hu => by
      have h1 := f2 j u hu
      have hlt : (ad.add j).block < w.heap.size := World.block_lt_of_cell? _ _ h1
      exact (((Below.refl _ w).alloc (Nat.le_refl _) _).cell hlt).trans h1)
    have F3 := Lib.hid f3
    have FO : Hid (∀ u ∈ fl, u.oneCell' = true) := Lib.hid (flat_one (by rw [f1, hr.1]) f3)
    have HL := Lib.hid hr.1
    clear hr hnil f1 f2 f3
    go_enter Try.func44, Try.ntmps44
    go_wp2_with (at_builtin; refine wpList_append_own _ rfl _ _ 22 rfl w.heap.size 36 i0 (.agg #[.int .i64 0, .slice none 0 0, .int .i64 0, .int .i64 0]) 4 48 Try.underlying22 hi0 hz0 hz1 hz2 rfl (by decide) (.slice (some ⟨w.heap.size, 0, none⟩) 0 0) 0 [] rfl (World.ownsRow_made w #[] 0 (Nat.le_refl _) (Nat.zero_le _) rfl) ad n c fl rfl F1.out F2.out FO.out (by unfold maxLen; omega) (by omega) (by simp) ?_; intro v' w1 hown hgrow _; refine Hid.out ?_)
    refine Lib.hid ?_
    have hb1 : Below w.heap.size w w1 := ((Below.refl _ w).alloc (Nat.le_refl _) _).grown hgrow (by simp) (by intro k hk; have hk' : w.heap.size = k := (by simpa [Value.ownBlock] using hk); omega)
    have HO : Hid (RowQ EH 4 36 (Lt B) w.heap.size v' l w1) := Lib.hid ⟨fl, by have h := hown; rw [Nat.zero_add, List.nil_append] at h; rw [HL.out]; exact h, fun j x hx => eh_steady.keep (F3.out j x hx) (fun b hb => hb1.block b (Nat.lt_of_lt_of_le hb hB)) (fun _ h => h)⟩
    have HB1 := Lib.hid hb1
    clear hown hgrow hb1
    go_wp2
    go_ret
    exact ⟨_, rfl, HB1.out, HO.out⟩

theorem cloneH_any (A : Option Addr) (n c : Nat) (l : Tb) (w : World) (hr : RT w w.heap.size A n l) (hnil : A = none → c = 0) (hn : n ≤ 1000) :
    Calls Try.prog 44 #[.slice A n c] w fun e w' => ∃ v, e = .returned v ∧ ON EH 4 36 w v l w' :=
  (cloneQ_any w.heap.size A n c l w (Nat.le_refl _) hr hnil hn).mono fun _ _ ⟨v, h1, h2, h3⟩ => ⟨v, h1, h3.on eh_steady h2 (fun b hb => ⟨Nat.lt_of_lt_of_le hb h2.size, fun e => by
    have := (h3.own b e).1
    have hb' : b < w.heap.size := hb
    omega⟩)⟩
theorem set_getD {l : Tb} {k : Nat} (hk : k < l.length) : l.set k (l.getD k hd0) = l := by
  rw [List.getD, List.getElem?_eq_getElem hk]
  exact List.set_getElem_self hk
set_option maxRecDepth 100000 in
set_option maxHeartbeats 8000000 in
theorem heldSame_any (A : Option Addr) (n c : Nat) (l : Tb) (w : World) (hr : RT w w.heap.size A n l) (hnil : A = none → c = 0) (hf : FewT l) :
    Calls Try.prog 28 #[.slice A n c] w fun e w' => ∃ v, e = .returned v ∧ ON EH 4 36 w v l w' := by
  have HL := Lib.hid hr.len
  have HF := Lib.hid hf
  have hn : n ≤ 100 := by rw [← hr.len]; exact hf.1
  have HC := Lib.hid (cloneH_any A n c l w hr hnil (by omega))
  clear hr hnil hf
  go_enter Try.func28, Try.ntmps28
  go_wp2_with fail
  refine HC.out.mono ?_
  rintro e w1 ⟨v, rfl, hon⟩
  obtain ⟨A1, c1, rfl, _, _⟩ := hon.form
  have HO := Lib.hid hon
  rw [HL.out] at HO ⊢
  clear hon
  go_wp2
  go_loopw [10] (fun i wr => ∃ k : Nat, k ≤ n ∧ i = .int .i64 k ∧ ON EH 4 36 w (.slice A1 n c1) l wr) (fun i _ => n - (intOf i).toNat)
  case atStart => exact ⟨0, Nat.zero_le _, rfl, HO.out⟩
  case round =>
    obtain ⟨k, hk, rfl, hrel⟩ := hrel
    have HK := Lib.hid hrel
    have HB := Lib.hid hrel.below
    clear hrel
    by_cases hlt : k < n
    · have hkl : k < l.length := by rw [HL.out]; exact hlt
      obtain ⟨b, off, A2, m2, c2, e, hbl, c0, c1', c2', c3', hx⟩ := RT.one (HK.out.reads eh_steady (by omega) rfl) hlt
      obtain ⟨g, hg, hgb, hgl⟩ := HK.out.head (by omega)
      have hmx := HF.out.at hkl
      have hset := set_getD hkl
      rw [hg] at e
      injection e with e
      injection e with e1 e2
      subst e1 e2 hg
      obtain ⟨x, hxx⟩ : ∃ x, l.getD k hd0 = x := ⟨_, rfl⟩
      rw [hxx] at c0 c2' c3' hx hmx hset
      have HS := Lib.hid hset
      have hm2 : m2 ≤ 1000 := by have := hx.reads.1; omega
      have hba : Below wr.heap.size wr (wr.alloc (hO x A2 m2 c2)) := (Below.refl _ _).alloc (Nat.le_refl _) _
      have HX := Lib.hid (hx.next hba)
      have HK1 := Lib.hid (HK.out.next eh_steady hba)
      have HBX : Hid (BoxH (wr.alloc (hO x A2 m2 c2)) wr.heap.size x A2 m2 c2) := Lib.hid (boxH_new wr x A2 m2 c2)
      have HGL : Hid (g < (wr.alloc (hO x A2 m2 c2)).heap.size) := Lib.hid (by simp; omega)
      unfold hO at HX HK1 HBX HGL
      have q0 := HBX.out.c0
      have q1 := HBX.out.c1
      have q2 := HBX.out.c2
      have q3 := HBX.out.c3
      simp only [Nat.zero_add] at c0 c1' c2' c3'
      clear hba hx hxx hmx hset hbl hgb hgl hkl
      go_wp2_with fail
      refine (own_any A2 m2 c2 x _ HX.out hm2).mono ?_
      rintro e w5 ⟨⟨A5, c5, rfl, hx5, he5⟩, hb5⟩
      have HK5 := Lib.hid (HK1.out.next eh_steady hb5)
      have HE5 : Hid (EH w5 (fun b => b < w5.heap.size ∧ b ≠ g) x _) := Lib.hid (eh_steady.keep he5 (fun _ _ => rfl) (fun b hb => ⟨hb.2, fun e => by have h1 := hb.1; have h2 := HGL.out; omega⟩))
      clear hx5 he5 hb5 q0 q1 q2 q3
      have HK6 := Lib.hid (HK5.out.set4 eh_steady (i := k) (by rw [HL.out]; exact hlt) HE5.out)
      rw [HS.out] at HK6
      obtain ⟨⟨u0, q0⟩, z0⟩ := HK5.out.block (i := k * 4) (by omega)
      obtain ⟨⟨u1, q1⟩, z1⟩ := HK5.out.block (i := k * 4 + 1) (by omega)
      obtain ⟨⟨u2, q2⟩, z2⟩ := HK5.out.block (i := k * 4 + 2) (by omega)
      obtain ⟨⟨u3, q3⟩, z3⟩ := HK5.out.block (i := k * 4 + 3) (by omega)
      go_wp2
      go_roundw
      case rel => exact ⟨k + 1, by omega, by go_num, HK6.out⟩
      case measure => simp [intOf]; omega
    · have hkn : k = n := by omega
      go_wp2
      go_ret
      exact ⟨_, rfl, HK.out⟩

end Go.Proofs.Ytbiofikijehlcaa

namespace Go.Proofs.Ytbiofikijehlcaa
open Go.RowKit

def nearZ (x : Int) : Int := if x < 0 then 0 else if 4611686018427387904 < x then 4611686018427387904 else x
def plusZ (t l : Int) : Int := if 4611686018427387904 < nearZ t + nearZ l then 4611686018427387904 else nearZ t + nearZ l
theorem nearZ_range (x : Int) : 0 ≤ nearZ x ∧ nearZ x ≤ 4611686018427387904 := by unfold nearZ; repeat' split; all_goals omega



end Go.Proofs.Ytbiofikijehlcaa

namespace Go.Proofs.Ytbiofikijehlcaa
open Go.RowKit

def withinB (a b c d : Int) : Bool := decide (b ≤ a ∨ (c ≤ a ∧ b ≤ d))
def timeB (t : Int) : Bool := decide (0 ≤ t ∧ t ≤ 4611686018427387904)

theorem ret_bl {a b : Bool} (h : b = a) : Ending.returned (.bool a) = .returned (.bool b) := by rw [h]


theorem whenRight_any (t : Int) (w : World) : Calls Try.prog 19 #[.int .i64 t] w fun e w' => e = .returned (.bool (timeB t)) ∧ w = w' := by
  by_cases h : 0 ≤ t
  · by_cases h2 : t ≤ 4611686018427387904
    · have e : Hid (timeB t = true) := Lib.hid (by unfold timeB; exact decide_eq_true ⟨h, h2⟩)
      go_enter Try.func19, Try.ntmps19
      go_wp2
      go_ret
      exact ⟨ret_bl e.out, rfl⟩
    · have e : Hid (timeB t = false) := Lib.hid (by unfold timeB; exact decide_eq_false (fun h' => h2 h'.2))
      go_enter Try.func19, Try.ntmps19
      go_wp2
      go_ret
      exact ⟨ret_bl e.out, rfl⟩
  · have e : Hid (timeB t = false) := Lib.hid (by unfold timeB; exact decide_eq_false (fun h' => h h'.1))
    go_enter Try.func19, Try.ntmps19
    go_wp2
    go_ret
    exact ⟨ret_bl e.out, rfl⟩



theorem plusZ_i64 (t l : Int) : I64 (plusZ t l) := by
  have r1 := nearZ_range t
  have r2 := nearZ_range l
  unfold I64 plusZ
  split <;> omega

theorem whenRight_b (t : Int) (w : World) (b : Bool) (h : timeB t = b) : Calls Try.prog 19 #[.int .i64 t] w fun e w' => e = .returned (.bool b) ∧ w = w' := by
  subst h
  exact whenRight_any t w

end Go.Proofs.Ytbiofikijehlcaa

namespace Go.Proofs.Ytbiofikijehlcaa
open Go.RowKit

theorem meets_max (a b c d : Int) : meetsZ a b c d = decide (max a c < min b d) := by
  unfold meetsZ
  exact decide_eq_decide.2 (by omega)
theorem meets_any {a b c d : Int} {v : Bool} {w : World} (h : meetsZ a b c d = v) : Calls Try.prog 20 #[.int .i64 a, .int .i64 b, .int .i64 c, .int .i64 d] w fun e w' => e = .returned (.bool v) ∧ Below w.heap.size w w' := by
  rw [meets_max] at h
  obtain ⟨p, hp⟩ : ∃ p, max a c = p := ⟨_, rfl⟩
  obtain ⟨q, hq⟩ : ∃ q, min b d = q := ⟨_, rfl⟩
  rw [hp, hq] at h
  have HH := Lib.hid h
  clear h
  go_enter Try.func20, Try.ntmps20
  go_wp2
  all_goals
    go_ret
    exact ⟨ret_bl (HH.out.symm.trans (decide_eq_decide.2 (by omega))), Below.refl _ _⟩
theorem may_times (h : Hd) : mayH h = (decide (0 < h.things.length) && (rightB h.things && (timeB h.frm && (timeB h.to && decide (h.frm < h.to))))) := by
  unfold timeB
  rw [Bool.eq_iff_iff]
  unfold mayH
  simp only [decide_eq_true_eq, Bool.and_eq_true]
  unfold MayH
  constructor
  · rintro ⟨h1, h2, h3, h4, h5⟩
    exact ⟨h1, h2, ⟨h3, by omega⟩, ⟨by omega, h5⟩, h4⟩
  · rintro ⟨h1, h2, h3, h4, h5⟩
    exact ⟨h1, h2, h3.1, h5, h4.2⟩
theorem time_b {t : Int} {w : World} {b : Bool} (h : timeB t = b) : Calls Try.prog 19 #[.int .i64 t] w fun e w' => e = .returned (.bool b) ∧ Below w.heap.size w w' :=
  (whenRight_b t w b h).mono fun _ _ ⟨h1, h2⟩ => ⟨h1, by rw [← h2]; exact Below.refl _ _⟩

set_option maxRecDepth 100000 in
set_option maxHeartbeats 8000000 in
theorem may_any {A : Option Addr} {m c : Nat} {h : Hd} {w : World} {v : Bool} (hh : HAsk w A m c h) (hv : mayH h = v) :
    Calls Try.prog 35 #[.agg #[.int .i64 h.id, .slice A m c, .int .i64 h.frm, .int .i64 h.to]] w fun e w' => e = .returned (.bool v) ∧ Below w.heap.size w w' := by
  obtain ⟨W, hW⟩ : ∃ W, W = w.alloc (hO h A m c) := ⟨_, rfl⟩
  have BX : Hid (BoxH W w.heap.size h A m c) := Lib.hid (by rw [hW]; exact boxH_new w h A m c)
  have hb0 : Below w.heap.size w W := by rw [hW]; exact (Below.refl _ _).alloc (Nat.le_refl _) _
  have HB := Lib.hid hb0
  have HH := Lib.hid (hh.next hb0)
  have hml := hh.reads.1
  unfold hO at hW
  rw [may_times, hml] at hv
  have HV := Lib.hid hv
  clear hb0 hh hml hv
  have q0 := BX.out.c0
  have q1 := BX.out.c1
  have q2 := BX.out.c2
  have q3 := BX.out.c3
  by_cases h0 : 0 < m
  · have d0 : decide (0 < m) = true := decide_eq_true h0
    rw [d0, Bool.true_and] at HV
    cases hr : rightB h.things with
    | false =>
      rw [hr, Bool.false_and] at HV
      have HR := Lib.hid hr
      clear hr
      go_enter Try.func35, Try.ntmps35
      go_wp2_with fail
      rw [← hW]
      clear hW
      refine (s_isSet HH.out.reads HH.out.few HR.out).mono ?_
      rintro e w1 ⟨rfl, hb⟩
      have HB1 := Lib.hid (HB.out.trans (hb.mono HB.out.size))
      have BX1 := Lib.hid (BX.out.next hb)
      clear hb q0 q1 q2 q3
      go_wp2
      go_ret
      exact ⟨by rw [← HV.out]; rfl, HB1.out⟩
    | true =>
      rw [hr, Bool.true_and] at HV
      have HR := Lib.hid hr
      clear hr
      cases hf : timeB h.frm with
      | false =>
        rw [hf, Bool.false_and] at HV
        have HF := Lib.hid hf
        clear hf
        go_enter Try.func35, Try.ntmps35
        go_wp2_with fail
        rw [← hW]
        clear hW
        refine (s_isSet HH.out.reads HH.out.few HR.out).mono ?_
        rintro e w1 ⟨rfl, hb⟩
        have HB1 := Lib.hid (HB.out.trans (hb.mono HB.out.size))
        have BX1 := Lib.hid (BX.out.next hb)
        clear hb q0 q1 q2 q3
        have q2 := BX1.out.c2
        have q3 := BX1.out.c3
        go_wp2_with fail
        refine (time_b HF.out).mono ?_
        rintro e w2 ⟨rfl, hb⟩
        have HB2 := Lib.hid (HB1.out.trans (hb.mono HB1.out.size))
        clear hb q2 q3
        go_wp2
        go_ret
        exact ⟨by rw [← HV.out]; rfl, HB2.out⟩
      | true =>
        rw [hf, Bool.true_and] at HV
        have HF := Lib.hid hf
        clear hf
        cases ht : timeB h.to with
        | false =>
          rw [ht, Bool.false_and] at HV
          have HT := Lib.hid ht
          clear ht
          go_enter Try.func35, Try.ntmps35
          go_wp2_with fail
          rw [← hW]
          clear hW
          refine (s_isSet HH.out.reads HH.out.few HR.out).mono ?_
          rintro e w1 ⟨rfl, hb⟩
          have HB1 := Lib.hid (HB.out.trans (hb.mono HB.out.size))
          have BX1 := Lib.hid (BX.out.next hb)
          clear hb q0 q1 q2 q3
          have q2 := BX1.out.c2
          have q3 := BX1.out.c3
          go_wp2_with fail
          refine (time_b HF.out).mono ?_
          rintro e w2 ⟨rfl, hb⟩
          have HB2 := Lib.hid (HB1.out.trans (hb.mono HB1.out.size))
          have BX2 := Lib.hid (BX1.out.next hb)
          clear hb q2 q3
          have q2 := BX2.out.c2
          have q3 := BX2.out.c3
          go_wp2_with fail
          refine (time_b HT.out).mono ?_
          rintro e w3 ⟨rfl, hb⟩
          have HB3 := Lib.hid (HB2.out.trans (hb.mono HB2.out.size))
          clear hb q2 q3
          go_wp2
          go_ret
          exact ⟨by rw [← HV.out]; rfl, HB3.out⟩
        | true =>
          rw [ht, Bool.true_and] at HV
          have HT := Lib.hid ht
          clear ht
          have hv := HV.out
          go_enter Try.func35, Try.ntmps35
          go_wp2_with fail
          rw [← hW]
          clear hW
          refine (s_isSet HH.out.reads HH.out.few HR.out).mono ?_
          rintro e w1 ⟨rfl, hb⟩
          have HB1 := Lib.hid (HB.out.trans (hb.mono HB.out.size))
          have BX1 := Lib.hid (BX.out.next hb)
          clear hb q0 q1 q2 q3
          have q2 := BX1.out.c2
          have q3 := BX1.out.c3
          go_wp2_with fail
          refine (time_b HF.out).mono ?_
          rintro e w2 ⟨rfl, hb⟩
          have HB2 := Lib.hid (HB1.out.trans (hb.mono HB1.out.size))
          have BX2 := Lib.hid (BX1.out.next hb)
          clear hb q2 q3
          have q2 := BX2.out.c2
          have q3 := BX2.out.c3
          go_wp2_with fail
          refine (time_b HT.out).mono ?_
          rintro e w3 ⟨rfl, hb⟩
          have HB3 := Lib.hid (HB2.out.trans (hb.mono HB2.out.size))
          have BX3 := Lib.hid (BX2.out.next hb)
          clear hb q2 q3
          have q2 := BX3.out.c2
          have q3 := BX3.out.c3
          go_wp2
          all_goals
            go_ret
            exact ⟨ret_bl (by first | rfl | exact HV.out | (rw [← HV.out]; simp_all)), HB3.out⟩
  · have d0 : decide (0 < m) = false := decide_eq_false h0
    rw [d0, Bool.false_and] at HV
    go_enter Try.func35, Try.ntmps35
    go_wp2_with fail
    rw [← hW]
    clear hW
    go_wp2
    go_ret
    exact ⟨by rw [← HV.out]; rfl, HB.out⟩

end Go.Proofs.Ytbiofikijehlcaa

namespace Go.Proofs.Ytbiofikijehlcaa
open Go.RowKit

section
variable {l : Tb} {h a b : Hd}
theorem short_is (h : shortT l = true) : shortB l := by
  have := of_decide_eq_true h
  refine ⟨this.1, fun x hx => ?_⟩
  obtain ⟨j, hj, rfl⟩ := List.getElem_of_mem hx
  have h2 := this.2 j hj
  rwa [show l.getD j hd0 = l[j] by simp [List.getD, hj]] at h2
theorem short_few' (h : shortT l = true) : FewT l := short_few (short_is h)
theorem ins_short (hl : shortB l) (hh : h.things.length ≤ 60) : (insT l h).length ≤ 31 ∧ ∀ x ∈ insT l h, x.things.length ≤ 60 := by
  constructor
  · unfold insT
    have h1 := List.length_filter_le (fun x => decide (x.id < h.id)) l
    have : ∀ l : Tb, (l.filter fun x => decide (x.id < h.id)).length + (l.filter fun x => decide (h.id < x.id)).length ≤ l.length := by
      intro l
      induction l with
      | nil => simp
      | cons x l ih =>
        rw [List.filter_cons, List.filter_cons]
        by_cases h1 : x.id < h.id
        · have h2 : ¬ h.id < x.id := by omega
          simp [h1, h2]; omega
        · by_cases h2 : h.id < x.id <;> simp [h1, h2] <;> omega
    have := this l
    have h3 := hl.1
    simp; omega
  · intro x hx
    rcases mem_ins.1 hx with h1 | rfl
    · exact hl.2 x h1.1
    · exact hh
theorem ins_few (hl : shortB l) (hh : h.things.length ≤ 60) : FewT (insT l h) := by
  obtain ⟨h1, h2⟩ := ins_short hl hh
  exact ⟨by omega, fun x hx => by have := h2 x hx; omega⟩
theorem add_no (h0 : addE l h ≠ 0) : addT l h = l := if_neg h0
theorem add_yes (hm : MayAdd l h) : addT l h = insT l h := if_pos (add_ok.2 hm)
theorem sameT_self (l : Tb) : sameT' l l = true := sameT_iff.2 rfl
theorem MayAdd.gotT (hm : MayAdd l h) : gotT (insT l h) h.id = true := by
  unfold Go.Proofs.Ytbiofikijehlcaa.gotT
  rw [Bool.and_eq_true]
  exact ⟨rightT_is.2 hm.right', has_iff_id.2 ⟨h, hm.mem.2 (.inr rfl), rfl⟩⟩
theorem MayAdd.gotOld (hm : MayAdd l h) {x : Hd} (hx : x ∈ l) : Go.Proofs.Ytbiofikijehlcaa.gotT (insT l h) x.id = true := by
  unfold Go.Proofs.Ytbiofikijehlcaa.gotT
  rw [Bool.and_eq_true]
  exact ⟨rightT_is.2 hm.right', has_iff_id.2 ⟨x, hm.mem.2 (.inl hx), rfl⟩⟩
theorem MayAdd.dropE (hm : MayAdd l h) : Go.Proofs.Ytbiofikijehlcaa.dropE (insT l h) h.id = 0 := by
  have h1 := hm.gotT
  unfold Go.Proofs.Ytbiofikijehlcaa.gotT at h1
  rw [Bool.and_eq_true] at h1
  unfold Go.Proofs.Ytbiofikijehlcaa.dropE
  rw [h1.1, h1.2]; rfl
theorem MayAdd.dropT (hm : MayAdd l h) : Go.Proofs.Ytbiofikijehlcaa.dropT (insT l h) h.id = l := by
  unfold Go.Proofs.Ytbiofikijehlcaa.dropT
  rw [if_pos hm.dropE]
  exact hm.drop
theorem MayAdd.cutE (hm : MayAdd l h) (z : Int) : Go.Proofs.Ytbiofikijehlcaa.cutE (insT l h) h.id z = if z ≤ h.frm ∨ h.to < z then 1 else 0 := by
  have h1 := hm.gotT
  unfold Go.Proofs.Ytbiofikijehlcaa.gotT at h1
  rw [Bool.and_eq_true] at h1
  unfold Go.Proofs.Ytbiofikijehlcaa.cutE
  rw [h1.1, h1.2, getT_add hm]; rfl
theorem MayAdd.cutT (hm : MayAdd l h) {z : Int} (h1 : h.frm < z) (h2 : z ≤ h.to) : Go.Proofs.Ytbiofikijehlcaa.cutT (insT l h) h.id z = (insT l h).map (shortH h.id z) := by
  unfold Go.Proofs.Ytbiofikijehlcaa.cutT
  rw [if_pos (by rw [hm.cutE]; exact if_neg (by omega))]
  rfl
theorem MayAdd.cut_right (hm : MayAdd l h) {z : Int} (h1 : h.frm < z) (h2 : z ≤ h.to) : rightT ((insT l h).map (shortH h.id z)) = true :=
  rightT_is.2 (Go.Proofs.Ytbiofikijehlcaa.cut_right hm.right' (hm.mem.2 (.inr rfl)) h1 h2)
theorem cut_over {id z : Int} (hr : rightT (l.map (shortH id z)) = true) : gotT (restT (l.map (shortH id z)) z) id = false := by
  unfold gotT
  rw [Bool.and_eq_false_iff]
  right
  rw [has_no]
  intro x hx he
  unfold restT at hx
  rw [if_pos hr, List.mem_filter] at hx
  obtain ⟨h1, h2⟩ := hx
  obtain ⟨y, _, rfl⟩ := List.mem_map.1 h1
  rw [short_id] at he
  have : (shortH id z y).to = z := by unfold shortH; rw [if_pos he]
  rw [this] at h2
  simp at h2
theorem over_len (l : Tb) (z : Int) : (restT l z).length + (goneT l z).length = l.length := by
  unfold restT goneT
  split
  · induction l with
    | nil => rfl
    | cons x l ih =>
      have : ∀ l : Tb, (l.filter fun x => decide (z < x.to)).length + (l.filter fun x => decide (x.to ≤ z)).length = l.length := by
        intro l
        induction l with
        | nil => rfl
        | cons x l ih =>
          rw [List.filter_cons, List.filter_cons]
          by_cases h1 : z < x.to
          · have h2 : ¬ x.to ≤ z := by omega
            simp [h1, h2]; omega
          · have h2 : x.to ≤ z := by omega
            simp [h1, h2]; omega
      exact this _
  · simp
theorem map_few {f : Hd → Hd} (hf : ∀ x, (f x).things = x.things) (h : FewT l) : FewT (l.map f) := by
  refine ⟨by simpa using h.1, fun x hx => ?_⟩
  obtain ⟨y, hy, rfl⟩ := List.mem_map.1 hx
  rw [hf]; exact h.2 y hy
theorem rest_few (h : FewT l) (z : Int) : FewT (restT l z) := by
  unfold restT
  split
  · exact ⟨Nat.le_trans (List.length_filter_le _ _) h.1, fun x hx => h.2 x (List.mem_filter.1 hx).1⟩
  · exact h
theorem gone_few (h : FewT l) (z : Int) : (goneT l z).length ≤ 100 := by
  unfold goneT
  split
  · exact Nat.le_trans (List.length_filter_le _ _) h.1
  · simp
theorem busy_len (l : Tb) (a b : Int) : (busyT l a b).length ≤ 256 := by
  unfold busyT
  split
  · exact length_pickL _
  · simp
theorem sumN_at {l : Tb} (t : Int) {k : Nat} (hk : k < l.length) {x : Hd} (hx : l.getD k hd0 = x) : sumN l t (k + 1) = sumN l t k + if meetsZ x.frm x.to t (t + 1) = true then x.things.length else 0 := by
  have h : l[k] = x := by rw [← hx, List.getD, List.getElem?_eq_getElem hk]; rfl
  rw [sumN_succ t hk, h]
theorem sumN_le {l : Tb} (h : shortB l) (t : Int) : ∀ k, k ≤ l.length → sumN l t k ≤ 60 * k
  | 0, _ => by unfold sumN; simp
  | k + 1, hk => by
    have h1 := sumN_le h t k (by omega)
    have h2 := h.2 l[k] (List.getElem_mem (by omega))
    rw [sumN_succ t (by omega)]
    split <;> omega
theorem sumN_few {l : Tb} (h : shortB l) (t : Int) {k : Nat} (hk : k ≤ l.length) : sumN l t k ≤ 1800 := by
  have h1 := sumN_le h t k hk
  have h2 := h.1
  omega
theorem addE_bad (hm : mayH h = false) : addE l h = 1 := by
  unfold addE
  rw [if_pos (by rw [hm, Bool.and_false])]
theorem addE_there (hr : rightT l = true) (hm : mayH h = true) (ht : hasT l h.id = true) : addE l h = 7 := by
  unfold addE
  rw [if_neg (by rw [hr, hm]; simp), if_pos ht]
theorem addE_apart (hr : rightT l = true) (hm : mayH h = true) (ht : hasT l h.id = false) (hl : l.length ≤ 30) : (addE l h == 0) = apartB (busyT l h.frm h.to) h.things := by
  have e : addE l h = if (l.any fun x => clashH x h) = true then 5 else 0 := by
    unfold addE
    rw [if_neg (by rw [hr, hm]; simp), if_neg (by rw [ht]; simp)]
    by_cases hc : (l.any fun x => clashH x h) = true
    · rw [if_pos (.inr hc), if_pos hc]
    · rw [if_neg (fun h1 => h1.elim (fun h1 => by omega) hc), if_neg hc]
  have hrh := (of_decide_eq_true hm).2.1
  have ha : apartB (busyT l h.frm h.to) h.things = !(l.any fun x => clashH x h) := by
    rw [Bool.eq_iff_iff]
    unfold apartB
    rw [busy_right, hrh, Bool.true_and, Bool.true_and, List.all_eq_true, Bool.not_eq_true', List.any_eq_false]
    constructor
    · intro hh x hx hcl
      unfold clashH at hcl
      rw [Bool.and_eq_true] at hcl
      obtain ⟨n, h1, h2⟩ := touch_iff.1 hcl.2
      have := hh n ((mem_busy hr).2 ⟨x, hx, hcl.1, h1⟩)
      rw [List.contains_iff_mem.2 h2] at this
      cases this
    · intro hh n hn
      obtain ⟨x, hx, h1, h2⟩ := (mem_busy hr).1 hn
      have := hh x hx
      cases hc : h.things.contains n with
      | false => rfl
      | true =>
        refine absurd ?_ this
        unfold clashH
        rw [h1, touch_iff.2 ⟨n, h2, List.contains_iff_mem.1 hc⟩]
        rfl
  rw [e, ha]
  cases l.any fun x => clashH x h <;> rfl
theorem got_is (hr : rightT l = true) (id : Int) : gotT l id = hasT l id := by unfold gotT; rw [hr, Bool.true_and]
theorem getD_in {l : Tb} {j : Nat} (hj : j < l.length) : l.getD j hd0 ∈ l := by
  rw [List.getD, List.getElem?_eq_getElem hj]; exact List.getElem_mem hj
theorem ends_len (l : Tb) (z : Int) : (endsT l z).length ≤ l.length := by
  unfold endsT
  split
  · have key : ∀ (x : Int) (l : List Int), (insZ x l).length ≤ l.length + 1 := by
      intro x l
      induction l with
      | nil => simp [insZ]
      | cons y r ih =>
        unfold insZ
        split
        · simp
        · split <;> simp
          omega
    have h1 : ∀ l : List Int, (l.foldr insZ []).length ≤ l.length := by
      intro l
      induction l with
      | nil => simp
      | cons x r ih =>
        have := key x (r.foldr insZ [])
        simp only [List.foldr_cons, List.length_cons]
        omega
    have h2 := h1 ((l.map Hd.to).filter fun t => decide (z < t))
    have h3 := List.length_filter_le (fun t : Int => decide (z < t)) (l.map Hd.to)
    rw [List.length_map] at h3
    omega
  · simp
end
section
variable {A : Option Addr} {n c : Nat} {A2 : Option Addr} {n2 c2 : Nat} {l a b : Tb} {w : World}
theorem short_b (hl : TAsk w A n c l) {v : Bool} (e : shortT l = v) : Calls Try.prog 8 #[.slice A n c] w fun e w' => e = .returned (.bool v) ∧ Below w.heap.size w w' := by
  subst e
  refine (refShort_any A n c l w hl.reads hl.few).mono ?_
  rintro e w' ⟨rfl, rfl⟩
  exact ⟨rfl, Below.refl _ _⟩
theorem sameT_b (ha : TAsk w A n c a) (hb : TAsk w A2 n2 c2 b) {v : Bool} (e : sameT' a b = v) : Calls Try.prog 14 #[.slice A n c, .slice A2 n2 c2] w fun e w' => e = .returned (.bool v) ∧ Below w.heap.size w w' := by
  subst e; exact refSameT_any A n c A2 n2 c2 a b w ha.reads hb.reads ha.few hb.few
end

end Go.Proofs.Ytbiofikijehlcaa

namespace Go.Proofs.Ytbiofikijehlcaa
open Go.RowKit

/-- a row that grows keeps all that is not its own -/
structure Keeps (wr : World) (v : Value) (w' : World) (v' : Value) : Prop where
  block : ∀ b, b < wr.heap.size → v.ownBlock ≠ some b → w'.heap[b]? = wr.heap[b]?
  size : wr.heap.size ≤ w'.heap.size
  own : v'.ownBlock = v.ownBlock ∨ ∀ b, v'.ownBlock = some b → wr.heap.size ≤ b
theorem Keeps.refl (w : World) (v : Value) : Keeps w v w v := ⟨fun _ _ _ => rfl, Nat.le_refl _, .inl rfl⟩
theorem Keeps.trans {w w1 w2 : World} {v v1 v2 : Value} (h : Keeps w v w1 v1) (k : Keeps w1 v1 w2 v2) : Keeps w v w2 v2 := by
  refine ⟨fun b hb hv => (k.block b (Nat.lt_of_lt_of_le hb h.size) (fun e => ?_)).trans (h.block b hb hv), Nat.le_trans h.size k.size, ?_⟩
  · rcases h.own with h1 | h1
    · exact hv (h1.symm.trans e)
    · have := h1 b e; omega
  · rcases k.own with h2 | h2
    · rcases h.own with h1 | h1
      · exact .inl (h2.trans h1)
      · exact .inr fun b hb => h1 b (by rw [← h2]; exact hb)
    · exact .inr fun b hb => Nat.le_trans h.size (h2 b hb)

/-- an owned row that reads as xs, in a world that keeps all that was there in w; what its elements reach was there in w -/
def OB {α : Type} (E : Elem α) (C : Nat) (t : TypeId) (w : World) (v : Value) (xs : List α) (wr : World) : Prop :=
  ∃ fl : List Value, wr.ownsRow w.heap.size t C v xs.length fl ∧ Below w.heap.size w wr ∧
    ∀ j x, xs[j]? = some x → E wr (Lt w.heap.size) x ((fl.drop (j * C)).take C)
section
variable {α : Type} {E : Elem α} {C : Nat} {t : TypeId} {w w1 w2 wr : World} {v v' v2 : Value} {xs ys : List α}
theorem OB.nil (w : World) (hb : Below w.heap.size w wr) : OB E C t w (.slice none 0 0) [] wr := ⟨[], by simpa using World.ownsRow_nil wr w.heap.size t C, hb, fun j x h => by simp at h⟩
theorem OB.below (h : OB E C t w v xs wr) : Below w.heap.size w wr := let ⟨_, _, h2, _⟩ := h; h2
theorem OB.on (hE : Steady E) (h : OB E C t w v xs wr) : ON E C t w v xs wr := by
  obtain ⟨fl, h1, h2, h3⟩ := h
  refine ⟨fl, h1, h2, fun j x hx => hE.keep (h3 j x hx) (fun _ _ => rfl) (fun b (hb : b < w.heap.size) => ⟨Nat.lt_of_lt_of_le hb h2.size, fun e => ?_⟩)⟩
  have := (h1.lt b e).1
  omega
/-- another row has grown, or new memory was made -/
theorem OB.keep (hE : Steady E) (h : OB E C t w v xs wr) (hb : Below w.heap.size w w1) (hk : ∀ g, v.ownBlock = some g → w1.heap[g]? = wr.heap[g]?) : OB E C t w v xs w1 := by
  obtain ⟨fl, h1, h2, h3⟩ := h
  refine ⟨fl, ⟨h1.1, h1.2.imp id ?_⟩, hb, fun j x hx => hE.keep (h3 j x hx) (fun b (hb' : b < w.heap.size) => (hb.block b hb').trans (h2.block b hb').symm) (fun _ hb' => hb')⟩
  rintro ⟨g, cap, cur, e1, e2, e3, e4⟩
  exact ⟨g, cap, cur, e1, e2, (hk g (by rw [e1]; rfl)).trans e3, e4⟩
theorem OB.next (hE : Steady E) (h : OB E C t w v xs wr) (hb : Below wr.heap.size wr w1) : OB E C t w v xs w1 :=
  h.keep hE (h.below.trans (hb.mono h.below.size)) fun g hg => by
    obtain ⟨fl, h1, _⟩ := h
    exact hb.block g (h1.lt g hg).2
/-- the rows' blocks are two -/
def Apart2 (v v2 : Value) : Prop := ∀ g, v.ownBlock = some g → v2.ownBlock ≠ some g
theorem Apart2.comm (h : Apart2 v v2) : Apart2 v2 v := fun g h1 h2 => h g h2 h1
theorem OB.keeps (hE : Steady E) (h2 : OB E C t w v2 ys wr) (hb : Below w.heap.size w w1) (hk : Keeps wr v w1 v') (ha : Apart2 v v2) : OB E C t w v2 ys w1 ∧ Apart2 v' v2 := by
  obtain ⟨fl, h3, _⟩ := id h2
  refine ⟨h2.keep hE hb fun g hg => hk.block g (h3.lt g hg).2 (fun e => ha g e hg), fun g hg hg2 => ?_⟩
  rcases hk.own with e | e
  · rw [e] at hg; exact ha g hg hg2
  · have := e g hg
    have := (h3.lt g hg2).2
    omega
/-- 'out = append(out, x)': x has been laid into a block of its own -/
theorem wpList_append_OB {P : Program} {ops : Array Oper} {rest : List Oper} {o : Oper} {a : Act} {Q : Exit → Act → World → Prop} (hgd : o.guard = none) (s x : Operand) (ty : TypeId)
    (ho : o.op = .call { callee := .builtin .append, args := #[s, x], argTypes := #[ty, ty] })
    (hE : Steady E) (h : OB E C t w v xs wr) (i : TypeInfo) (z : Value) (bytes : Nat) (ht : P.underlying ty = some (.slice t)) (hi : P.info? t = some i) (hz : i.zero = some z)
    (hsize : i.size = C) (hby : i.bytes = bytes) (hzs : z.cells.size = C) (hsz : 0 < C)
    (hs : a.eval s = v) (x0 : α) (cs : Array Value) (hx : a.eval x = .slice (some ⟨wr.heap.size, 0, none⟩) 1 1) (hl : cs.toList.length = C) (h1 : ∀ u ∈ cs.toList, u.oneCell' = true)
    (he : E wr (Lt w.heap.size) x0 cs.toList)
    (h63 : xs.length + 1 ≤ maxLen) (hbytes : (xs.length + 1) * bytes ≤ 140737488355328)
    (hk : ∀ v' w', OB E C t w v' (xs ++ [x0]) w' → Keeps wr v w' v' → wpList P ops Q rest (a.put o.dst v') w') : wpList P ops Q (o :: rest) a (wr.alloc (.cells cs t)) := by
  have hB := h.below
  obtain ⟨fl, h2, _, h4⟩ := id h
  refine wpList_append_lies (wr.alloc (.cells cs t)) hgd s x ty ho w.heap.size t i z C bytes ht hi hz hsize hby hzs hsz v xs.length fl hs (h2.alloc _) ⟨wr.heap.size, 0, none⟩ 1 1 cs.toList hx (by rw [hl]; omega)
    (World.news_of_block (cs := cs) (t := t) (fr := (0, 0)) (heap_alloc_new wr _)) h1 (by omega) h63 hbytes (by have := hB.size; simp; omega) _ rfl ?_
  intro g cap w2 hown' hgrow hat hlt
  have hsw : wr.heap.size ≤ w2.heap.size := by have := hgrow.size; simp at this; omega
  have hbel : Below w.heap.size w w2 := (hB.alloc hB.size _).grown hgrow (by have := hB.size; simp; omega) (fun j hj => (h2.lt j hj).1)
  refine hk _ _ ⟨fl ++ cs.toList, by rw [List.length_append]; exact hown', hbel, fun j y hy => ?_⟩ ⟨fun b hb hv => (hgrow.block b (by simp; omega) (fun e => hv e.symm)).trans (Below.heap_alloc wr _ b hb), hsw, ?_⟩
  · have keep : ∀ {y : α} {us : List Value}, E wr (Lt w.heap.size) y us → E w2 (Lt w.heap.size) y us := fun h => hE.keep h (fun b (hb : b < w.heap.size) => (hbel.block b hb).trans (hB.block b hb).symm) (fun _ hb => hb)
    have hfll := h2.1
    rcases Nat.lt_trichotomy j xs.length with hj | hj | hj
    · rw [List.getElem?_append_left hj] at hy
      have e := keep (h4 j y hy)
      have hlen : j * C + C ≤ fl.length := by rw [hfll, ← Nat.succ_mul]; exact Nat.mul_le_mul_right C hj
      rw [List.drop_append_of_le_length (by omega), List.take_append_of_le_length (by rw [List.length_drop]; omega)]
      exact e
    · subst hj
      rw [List.getElem?_append_right (Nat.le_refl _)] at hy
      simp at hy
      subst hy
      rw [← hfll, List.drop_append_of_le_length (Nat.le_refl _), List.drop_length, List.nil_append, List.take_of_length_le (by omega)]
      exact keep he
    · rw [List.getElem?_eq_none (by rw [List.length_append]; simp; omega)] at hy
      cases hy
  · rcases hat with h5 | h5
    · exact .inl h5.symm
    · refine .inr fun b hb => ?_
      have hb' : g = b := by simpa [Value.ownBlock] using hb
      rw [← hb', h5]; simp
end

end Go.Proofs.Ytbiofikijehlcaa

namespace Go.Proofs.Ytbiofikijehlcaa
open Go.RowKit

theorem filter_take_yes {l : Tb} {p : Hd → Bool} {k : Nat} (hk : k < l.length) (h : p (l.getD k hd0) = true) : (l.take (k + 1)).filter p = (l.take k).filter p ++ [l.getD k hd0] := by
  rw [List.take_succ_eq_append_getElem hk, List.filter_append, getD_hd hk]
  rw [getD_hd hk] at h
  simp [h]
theorem filter_take_no {l : Tb} {p : Hd → Bool} {k : Nat} (hk : k < l.length) (h : p (l.getD k hd0) = false) : (l.take (k + 1)).filter p = (l.take k).filter p := by
  rw [List.take_succ_eq_append_getElem hk, List.filter_append]
  rw [getD_hd hk] at h
  simp [h]
theorem ob_table {w wr : World} {v : Value} {xs : Tb} (h : OB EH 4 36 w v xs wr) : ∃ A c, v = .slice A xs.length c ∧ RT wr wr.heap.size A xs.length xs ∧ (A = none → c = 0) ∧ xs.length ≤ c := by
  have ho := h.on eh_steady
  obtain ⟨A, c, rfl, h1, h2⟩ := ho.form
  exact ⟨A, c, rfl, ho.reads eh_steady (by omega) rfl, h1, h2⟩
/-- two rows of holdings -/
structure Two (w : World) (v : Value) (xs : Tb) (v2 : Value) (ys : Tb) (wr : World) : Prop where
  a : OB EH 4 36 w v xs wr
  b : OB EH 4 36 w v2 ys wr
  ap : Apart2 v v2
theorem Two.next {w wr w1 : World} {v v2 : Value} {xs ys : Tb} (h : Two w v xs v2 ys wr) (hb : Below wr.heap.size wr w1) : Two w v xs v2 ys w1 := ⟨h.a.next eh_steady hb, h.b.next eh_steady hb, h.ap⟩

set_option maxRecDepth 100000 in
set_option maxHeartbeats 8000000 in
theorem refOver_yes (A : Option Addr) (n c : Nat) (l : Tb) (now : Int) (w : World) (hr : RT w w.heap.size A n l) (hn : n ≤ maxLen) (hrt : rightT l = true) :
    Calls Try.prog 10 #[.slice A n c, .int .i64 now] w (TTPost (restT l now) (goneT l now) w) := by
  obtain ⟨i0, hi0, hz0, hz1, hz2⟩ : ∃ i, Try.prog.info? 36 = some i ∧ i.zero = some (.agg #[.int .i64 0, .slice none 0 0, .int .i64 0, .int .i64 0]) ∧ i.size = 4 ∧ i.bytes = 48 := info_parts held_info
  have HR0 := Lib.hid hr
  have HL := Lib.hid hr.len
  have HN : Hid (n ≤ maxLen) := Lib.hid hn
  have HT := Lib.hid hrt
  have hfew := (rightT_is.1 hrt).few
  have hn256 : n ≤ 256 := by rw [← hr.len]; exact hfew
  have HE1 : Hid (restT l now = l.filter (fun x => decide (now < x.to))) := Lib.hid (by unfold restT; rw [if_pos hrt])
  have HE2 : Hid (goneT l now = l.filter (fun x => decide (x.to ≤ now))) := Lib.hid (by unfold goneT; rw [if_pos hrt])
  rw [HE1.out, HE2.out]
  obtain ⟨ga, hga⟩ : ∃ ga, l.filter (fun x => decide (now < x.to)) = ga := ⟨_, rfl⟩
  obtain ⟨gb, hgb⟩ : ∃ gb, l.filter (fun x => decide (x.to ≤ now)) = gb := ⟨_, rfl⟩
  rw [hga, hgb]
  have HGA := Lib.hid hga
  have HGB := Lib.hid hgb
  unfold maxLen at hn
  clear hr hrt hfew hga hgb
  go_enter Try.func10, Try.ntmps10
  go_wp2_with fail
  refine (refRightT_b HR0.out HN.out HT.out).mono ?_
  rintro e w1 ⟨rfl, hb1⟩
  have HB1 := Lib.hid hb1
  clear hb1
  go_wp2
  go_loopw [6, 7, 8] (fun rv gv kv wr => ∃ k : Nat, k ≤ n ∧ kv = .int .i64 k ∧ Two w rv ((l.take k).filter (fun x => decide (now < x.to))) gv ((l.take k).filter (fun x => decide (x.to ≤ now))) wr) (fun _ _ kv _ => n - (intOf kv).toNat)
  case atStart => exact ⟨0, Nat.zero_le _, rfl, ⟨OB.nil w HB1.out, OB.nil w HB1.out, fun g h => by cases h⟩⟩
  case round =>
    obtain ⟨k, hk, rfl, hrel⟩ := hrel
    have HK := Lib.hid hrel
    clear hrel
    by_cases hlt : k < n
    · have hkl : k < l.length := by rw [HL.out]; exact hlt
      have HLA : Hid (((l.take k).filter (fun x => decide (now < x.to))).length ≤ 1000) := Lib.hid (by have := List.length_filter_le (fun x : Hd => decide (now < x.to)) (l.take k); rw [List.length_take] at this; omega)
      have HLB : Hid (((l.take k).filter (fun x => decide (x.to ≤ now))).length ≤ 1000) := Lib.hid (by have := List.length_filter_le (fun x : Hd => decide (x.to ≤ now)) (l.take k); rw [List.length_take] at this; omega)
      obtain ⟨b, off, A2, m2, c2, rfl, _, c0, c1, c2', c3', hel⟩ := (HR0.out.below HK.out.a.below).el hlt
      have hyes1 := filter_take_yes (p := fun x => decide (now < x.to)) hkl
      have hyes2 := filter_take_yes (p := fun x => decide (x.to ≤ now)) hkl
      have hno1 := filter_take_no (p := fun x => decide (now < x.to)) hkl
      have hno2 := filter_take_no (p := fun x => decide (x.to ≤ now)) hkl
      obtain ⟨x, hx⟩ : ∃ x, l.getD k hd0 = x := ⟨_, rfl⟩
      rw [hx] at c0 c2' c3' hel hyes1 hyes2 hno1 hno2
      by_cases hto : now < x.to
      · have d0 : decide (now < x.to) = true := decide_eq_true hto
        have HS1 := Lib.hid (hyes1 d0)
        have HS2 := Lib.hid (hno2 (decide_eq_false (by omega)))
        have HEL : Hid (EH _ (Lt w.heap.size) x _) := Lib.hid hel
        clear hyes1 hyes2 hno1 hno2 hel hx hto hkl
        go_wp2_with (at_builtin; refine wpList_append_OB rfl (.tmp 26) (.tmp 31) 22 rfl eh_steady HK.out.a i0 _ 48 Try.underlying22 hi0 hz0 hz1 hz2 rfl (by decide) rfl x #[.int .i64 x.id, .slice A2 m2 c2, .int .i64 x.frm, .int .i64 x.to] rfl rfl (by intro u hu; simp at hu; rcases hu with h | h | h | h <;> subst h <;> rfl) HEL.out (by have := HLA.out; unfold maxLen; omega) (by have := HLA.out; omega) ?_; intro v' w4 hOB hKP; refine Hid.out ?_)
        refine Lib.hid ?_
        have HT2 : Hid (Two w v' _ _ _ w4) := Lib.hid ⟨hOB, (HK.out.b.keeps eh_steady hOB.below hKP HK.out.ap).1, (HK.out.b.keeps eh_steady hOB.below hKP HK.out.ap).2⟩
        clear hOB hKP c0 c1 c2' c3'
        go_wp2
        go_roundw
        case rel => exact ⟨k + 1, by omega, by go_num, by rw [HS1.out, HS2.out]; exact HT2.out⟩
        case measure => simp [intOf]; omega
      · have d0 : decide (now < x.to) = false := decide_eq_false hto
        have HS1 := Lib.hid (hno1 d0)
        have HS2 := Lib.hid (hyes2 (decide_eq_true (by omega)))
        have HEL : Hid (EH _ (Lt w.heap.size) x _) := Lib.hid hel
        clear hyes1 hyes2 hno1 hno2 hel hx hto hkl
        go_wp2_with (at_builtin; refine wpList_append_OB rfl (.tmp 33) (.tmp 38) 22 rfl eh_steady HK.out.b i0 _ 48 Try.underlying22 hi0 hz0 hz1 hz2 rfl (by decide) rfl x #[.int .i64 x.id, .slice A2 m2 c2, .int .i64 x.frm, .int .i64 x.to] rfl rfl (by intro u hu; simp at hu; rcases hu with h | h | h | h <;> subst h <;> rfl) HEL.out (by have := HLB.out; unfold maxLen; omega) (by have := HLB.out; omega) ?_; intro v' w4 hOB hKP; refine Hid.out ?_)
        refine Lib.hid ?_
        have HT2 : Hid (Two w _ _ v' _ w4) := Lib.hid ⟨(HK.out.a.keeps eh_steady hOB.below hKP HK.out.ap.comm).1, hOB, (HK.out.a.keeps eh_steady hOB.below hKP HK.out.ap.comm).2.comm⟩
        clear hOB hKP c0 c1 c2' c3'
        go_wp2
        go_roundw
        case rel => exact ⟨k + 1, by omega, by go_num, by rw [HS1.out, HS2.out]; exact HT2.out⟩
        case measure => simp [intOf]; omega
    · have hkn : k = n := by omega
      have htk : l.take k = l := List.take_of_length_le (by rw [HL.out]; omega)
      rw [htk, HGA.out, HGB.out] at HK
      obtain ⟨A1, c1, rfl, hr1, hn1, hc1⟩ := ob_table HK.out.a
      obtain ⟨A2, c2, rfl, hr2, hn2, hc2⟩ := ob_table HK.out.b
      have HR1 := Lib.hid hr1
      have HR2 := Lib.hid hr2
      have HF : Hid (((A1 = none → c1 = 0) ∧ ga.length ≤ c1) ∧ ((A2 = none → c2 = 0) ∧ gb.length ≤ c2)) := Lib.hid ⟨⟨hn1, hc1⟩, ⟨hn2, hc2⟩⟩
      clear hr1 hr2 hn1 hn2 hc1 hc2 htk
      go_wp2
      go_ret2
      exact ⟨⟨A1, c1, A2, c2, rfl, HR1.out, HR2.out, HF.out.1, HF.out.2⟩, HK.out.a.below⟩

end Go.Proofs.Ytbiofikijehlcaa

namespace Go.Proofs.Ytbiofikijehlcaa

abbrev Rising (l : List Int) : Prop := l.Pairwise fun a b => a < b
theorem rise_ext : ∀ {a b : List Int}, Rising a → Rising b → (∀ x, x ∈ a ↔ x ∈ b) → a = b
  | [], [], _, _, _ => rfl
  | [], y :: b, _, _, h => by have := (h y).2 (List.mem_cons_self ..); cases this
  | x :: a, [], _, _, h => by have := (h x).1 (List.mem_cons_self ..); cases this
  | x :: a, y :: b, ha, hb, h => by
    unfold Rising at ha hb
    rw [List.pairwise_cons] at ha hb
    have hxy : x = y := by
      rcases List.mem_cons.1 ((h x).1 (List.mem_cons_self ..)) with e | e
      · exact e
      · rcases List.mem_cons.1 ((h y).2 (List.mem_cons_self ..)) with e' | e'
        · exact e'.symm
        · have h1 := hb.1 x e
          have h2 := ha.1 y e'
          omega
    subst hxy
    congr 1
    refine rise_ext ha.2 hb.2 fun z => ?_
    constructor
    · intro hz
      rcases List.mem_cons.1 ((h z).1 (List.mem_cons_of_mem _ hz)) with e | e
      · subst e; have := ha.1 z hz; omega
      · exact e
    · intro hz
      rcases List.mem_cons.1 ((h z).2 (List.mem_cons_of_mem _ hz)) with e | e
      · subst e; have := hb.1 z hz; omega
      · exact e
theorem mem_insZ {x z : Int} : ∀ {l : List Int}, z ∈ insZ x l ↔ z = x ∨ z ∈ l
  | [] => by simp [insZ]
  | y :: r => by
    unfold insZ
    split
    · simp
    · split
      · rename_i e
        subst e
        simp
      · rw [List.mem_cons, mem_insZ, List.mem_cons]
        constructor
        · rintro (h | h | h)
          · exact .inr (.inl h)
          · exact .inl h
          · exact .inr (.inr h)
        · rintro (h | h | h)
          · exact .inr (.inl h)
          · exact .inl h
          · exact .inr (.inr h)
theorem rising_insZ {x : Int} : ∀ {l : List Int}, Rising l → Rising (insZ x l)
  | [], _ => List.pairwise_singleton _ _
  | y :: r, h => by
    have h' := List.pairwise_cons.1 h
    unfold insZ
    split
    · rename_i hlt
      refine List.pairwise_cons.2 ⟨fun z hz => ?_, h⟩
      rcases List.mem_cons.1 hz with e | e
      · subst e; exact hlt
      · have := h'.1 z e; omega
    · split
      · exact h
      · rename_i h1 h2
        refine List.pairwise_cons.2 ⟨fun z hz => ?_, rising_insZ h'.2⟩
        rcases mem_insZ.1 hz with e | e
        · subst e; omega
        · exact h'.1 z e
theorem mem_foldZ {z : Int} : ∀ {l : List Int}, z ∈ l.foldr insZ [] ↔ z ∈ l
  | [] => Iff.rfl
  | x :: r => by rw [List.foldr_cons, mem_insZ, mem_foldZ, List.mem_cons]
theorem rising_foldZ : ∀ (l : List Int), Rising (l.foldr insZ [])
  | [] => List.Pairwise.nil
  | _ :: r => rising_insZ (rising_foldZ r)
section
variable {zs : List Int}
theorem keeps_first (zs : List Int) : ∀ j, j < zs.length → ∃ i, i ≤ j ∧ Lib.keeps zs.toArray i = true ∧ zs.toArray[i]! = zs.toArray[j]!
  | 0, _ => ⟨0, Nat.le_refl _, by simp [Lib.keeps], rfl⟩
  | j + 1, hj => by
    by_cases h : zs.toArray[j + 1]! = zs.toArray[j]!
    · obtain ⟨i, h1, h2, h3⟩ := keeps_first zs j (by omega)
      exact ⟨i, by omega, h2, h3.trans h.symm⟩
    · exact ⟨j + 1, Nat.le_refl _, by simpa [Lib.keeps] using h, rfl⟩
theorem arr_at {j : Nat} (hj : j < zs.length) : zs.toArray[j]! = zs[j] := by rw [getElem!_pos _ _ (by simpa using hj)]; simp
theorem mem_compact {x : Int} : x ∈ Lib.compactUpTo zs.toArray zs.length ↔ x ∈ zs := by
  unfold Lib.compactUpTo
  rw [List.mem_map]
  constructor
  · rintro ⟨j, hj, rfl⟩
    rw [List.mem_filter, List.mem_range] at hj
    rw [arr_at hj.1]
    exact List.getElem_mem hj.1
  · intro hx
    obtain ⟨j, hj, rfl⟩ := List.getElem_of_mem hx
    obtain ⟨i, h1, h2, h3⟩ := keeps_first zs j hj
    exact ⟨i, by rw [List.mem_filter, List.mem_range]; exact ⟨by omega, h2⟩, by rw [h3, arr_at hj]⟩
theorem rising_compact (h : zs.Pairwise fun a b => a ≤ b) : Rising (Lib.compactUpTo zs.toArray zs.length) := by
  unfold Lib.compactUpTo Rising
  rw [List.pairwise_map, List.pairwise_filter]
  refine List.pairwise_iff_getElem.2 fun i j hi hj hij _ hk => ?_
  simp only [List.getElem_range, List.length_range] at hi hj hk ⊢
  rw [arr_at (by omega), arr_at (by omega)]
  have hne : zs.toArray[j]! ≠ zs.toArray[j - 1]! := by
    have : j ≠ 0 := by omega
    simpa [Lib.keeps, this] using hk
  rw [arr_at (by omega), arr_at (by omega)] at hne
  have h1 : zs[i] ≤ zs[j - 1] := by
    rcases Nat.eq_or_lt_of_le (show i ≤ j - 1 by omega) with e | e
    · subst e; exact Int.le_refl _
    · exact List.pairwise_iff_getElem.1 h i (j - 1) (by omega) (by omega) e
  have h2 := List.pairwise_iff_getElem.1 h (j - 1) j (by omega) (by omega) (by omega)
  omega
end
theorem sort_le (l : List Int) : (l.mergeSort fun x y => decide (x ≤ y)).Pairwise fun a b => a ≤ b :=
  (List.pairwise_mergeSort (fun a b c h1 h2 => by simp at *; omega) (fun a b => by simp; omega) l).imp fun h => by simpa using h
/-- sorted, and each but once -/
theorem compact_sort (l : List Int) : Lib.compactUpTo (l.mergeSort fun x y => decide (x ≤ y)).toArray (l.mergeSort fun x y => decide (x ≤ y)).length = l.foldr insZ [] :=
  rise_ext (rising_compact (sort_le l)) (rising_foldZ l) fun x => by rw [mem_compact, mem_foldZ, List.mem_mergeSort]
theorem fold_short {l : List Int} (h : l.length < 2) : l.foldr insZ [] = l := by
  match l, h with
  | [], _ => rfl
  | [x], _ => rfl

end Go.Proofs.Ytbiofikijehlcaa
