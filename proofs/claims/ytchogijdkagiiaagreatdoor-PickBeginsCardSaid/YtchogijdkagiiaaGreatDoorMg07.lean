/- The program's own, and slices.Clone of holdings: copies in memory of their own. The program's functions of layer 2 (when) that layer 3 calls: Right, Within, Plus: what they answer of any numbers. The program's when.Meets and may of layer 10: do two spans meet; may a holding be. Plain facts that the statements of layer 10 ask for. Plain facts for layer 13: the times that count, in order; the first of them that fits; what is got may be held. No program's text is walked here. Plain facts for a plan. No program's text is walked here. Written by gen/gen_slot.py. Who begins now, by which policy, in plain words. No program's text is walked here. What the program's functions of layer 14 (pick) answer, as one list of contracts: the statements' walks lean on it alone. Written by gen/gen_pick.py. -/
import Derived.Test.YtchogijdkagiiaaGreatDoorMg06
import Derived.Test.YtchogijdkagiiaaGreatDoorMg03
import Derived.Below
import Derived.Test.YtchogijdkagiiaaGreatDoorMg01
import Derived.Test.YtchogijdkagiiaaGreatDoorMg04
import Derived.Test.YtchogijdkagiiaaGreatDoorMg05
namespace Go.Proofs.YtchogijdkagiiaaGreatDoor
open Go.RowKit

theorem BoxH.set {wr : World} {g j : Nat} {h h' : Hd} {A A' : Option Addr} {m c m' c' : Nat} {v : Value} (x : BoxH wr g h A m c) (e : (#[.int .i64 h.id, .slice A m c, .int .i64 h.frm, .int .i64 h.to] : Array Value).setIfInBounds j v = #[.int .i64 h'.id, .slice A' m' c', .int .i64 h'.frm, .int .i64 h'.to]) : BoxH (wr.setCell ⟨g, j, none⟩ v) g h' A' m' c' := by
  refine ⟨by simpa [World.setCell] using x.lt, ?_⟩
  show (wr.heap.modify g _)[g]? = _
  rw [Array.getElem?_modify, if_pos rfl, x.at']
  unfold hO
  simp only [Option.map_some]
  rw [← e]
  rfl
theorem BoxH.other {wr : World} {g b j : Nat} {h : Hd} {A : Option Addr} {m c : Nat} {v : Value} (x : BoxH wr g h A m c) (hb : g ≠ b) : BoxH (wr.setCell ⟨b, j, none⟩ v) g h A m c :=
  ⟨by simpa [World.setCell] using x.lt, (Below.heap_setCell _ _ _ _ hb).trans x.at'⟩

theorem own_keep {w wr : World} {B C n : Nat} {t : TypeId} {v : Value} {fl : List Value} (h : wr.ownsRow B t C v n fl) (hk : ∀ b, B ≤ b → w.heap[b]? = wr.heap[b]?) : w.ownsRow B t C v n fl := by
  refine ⟨h.1, h.2.imp id ?_⟩
  rintro ⟨g, cap, cur, e1, e2, e3, e4⟩
  exact ⟨g, cap, cur, e1, e2, (hk g e2).trans e3, e4⟩

/-- numbers in a row of one's own, which lies behind what was there -/
theorem rn_own {w : World} {base n c : Nat} {A : Option Addr} {t : TypeId} {xs : List Int} (h : w.ownsRow base t 1 (.slice A n c) n (xs.map (Value.int .i64))) : RN EI 1 w (fun b => base ≤ b ∧ b < w.heap.size) A n xs := by
  have hl : xs.length = n := by have := h.1; rw [List.length_map] at this; omega
  refine ⟨hl, fun h0 => ?_⟩
  rcases h.2 with ⟨_, e⟩ | ⟨g, cap, cur, e, _⟩
  · omega
  · injection e with e1 e2 e3
    subst e1 e3
    refine ⟨g, 0, rfl, h.lt g rfl, fun j x hx => ⟨[.int .i64 x], rfl, fun i v hv => ?_, rfl⟩⟩
    have hj := (List.getElem?_eq_some_iff.1 hx).1
    have hi : i = 0 := by have := (List.getElem?_eq_some_iff.1 hv).1; simpa using this
    subst hi
    have hv' : Value.int .i64 x = v := by simpa using hv
    subst hv'
    rw [show 0 + (j * 1 + 0) = j by omega, h.cellAt j (by omega), List.getElem?_map, hx]
    rfl

set_option maxRecDepth 100000 in
set_option maxHeartbeats 8000000 in
theorem own_any (A : Option Addr) (m c : Nat) (h : Hd) (w : World) (hh : HAsk w A m c h) (hm : m ≤ 1000) :
    Calls Tryz.prog 44 #[.agg #[.int .i64 h.id, .slice A m c, .int .i64 h.frm, .int .i64 h.to]] w fun e w' => (∃ A2 c2, e = .returned (.agg #[.int .i64 h.id, .slice A2 m c2, .int .i64 h.frm, .int .i64 h.to]) ∧ HAsk w' A2 m c2 h ∧ EH w' (fun b => w.heap.size ≤ b ∧ b < w'.heap.size) h [.int .i64 h.id, .slice A2 m c2, .int .i64 h.frm, .int .i64 h.to]) ∧ Below w.heap.size w w' := by
  obtain ⟨W, hW⟩ : ∃ W, W = (w.alloc (hO h A m c)).alloc (hO hd0 none 0 0) := ⟨_, rfl⟩
  have hb0 : Below w.heap.size w W := by rw [hW]; exact ((Below.refl _ _).alloc (Nat.le_refl _) _).alloc (by simp) _
  have BX : Hid (BoxH W w.heap.size h A m c) := Lib.hid (by
    rw [hW]; exact (boxH_new w h A m c).next ((Below.refl _ _).alloc (Nat.le_refl _) _))
  have BR : Hid (BoxH W (w.heap.size + 1) hd0 none 0 0) := Lib.hid (by
    have := boxH_new (w.alloc (hO h A m c)) hd0 none 0 0
    rw [World.size_alloc] at this
    rw [hW]; exact this)
  have HB := Lib.hid hb0
  have HH := Lib.hid (hh.next hb0)
  have HSW : Hid (W.heap.size = w.heap.size + 2) := Lib.hid (by rw [hW]; simp)
  unfold hO at hW
  have hml : m = h.things.length := hh.reads.1.symm
  have HML := Lib.hid hml
  clear hb0 hh hml
  have q0 := BX.out.c0
  have q1 := BX.out.c1
  have q2 := BX.out.c2
  have q3 := BX.out.c3
  go_enter Tryz.func44, Tryz.ntmps44
  go_wp2_with fail
  simp only [hd0] at hW
  rw [← hW]
  clear hW
  refine (clone_any _ _ _ _ _ HH.out.reads HH.out.nil hm).mono ?_
  rintro e w1 ⟨v, rfl, hon⟩
  obtain ⟨A2, c2, rfl, hn2, hc2⟩ := hon.form
  have hb := hon.below
  have HB1 := Lib.hid (HB.out.trans (hb.mono HB.out.size))
  have BX1 := Lib.hid (BX.out.next hb)
  have BR1 := Lib.hid (BR.out.next hb)
  have HO : Hid (w1.ownsRow W.heap.size 3 1 (.slice A2 h.things.length c2) h.things.length (h.things.map (Value.int .i64))) := Lib.hid (on_own hon).1
  have HF : Hid ((A2 = none → c2 = 0) ∧ h.things.length ≤ c2) := Lib.hid ⟨hn2, hc2⟩
  have HSZ : Hid (w.heap.size + 2 = W.heap.size) := Lib.hid (by rw [HSW.out])
  have hlen : h.things.length = m := HML.out.symm
  rw [hlen] at HO HF ⊢
  clear hon hb hn2 hc2 hlen q0 q1 q2 q3
  have q0 := BX1.out.c0
  have q1 := BX1.out.c1
  have q2 := BX1.out.c2
  have q3 := BX1.out.c3
  have z0 := BX1.out.frozen 0
  have z1 := BX1.out.frozen 1
  have p0 := BR1.out.c0
  have p1 := BR1.out.c1
  have p2 := BR1.out.c2
  have p3 := BR1.out.c3
  have y0 := BR1.out.frozen 0
  have y1 := BR1.out.frozen 1
  have y2 := BR1.out.frozen 2
  have y3 := BR1.out.frozen 3
  go_wp2
  have b1 : BoxH ((((w1.setCell ⟨w.heap.size, 1, none⟩ (.slice A2 m c2)).setCell ⟨w.heap.size + 1, 0, none⟩ (.int .i64 h.id)).setCell ⟨w.heap.size + 1, 1, none⟩ (.slice A2 m c2)).setCell ⟨w.heap.size + 1, 2, none⟩ (.int .i64 h.frm) |>.setCell ⟨w.heap.size + 1, 3, none⟩ (.int .i64 h.to)) (w.heap.size + 1) h A2 m c2 :=
    (((((BR1.out.other (by omega)).set (h' := ⟨h.id, [], 0, 0⟩) rfl).set (h' := ⟨h.id, [], 0, 0⟩) rfl).set (h' := ⟨h.id, [], h.frm, 0⟩) rfl).set (h' := h) rfl)
  have hbel : Below w.heap.size w ((((w1.setCell ⟨w.heap.size, 1, none⟩ (.slice A2 m c2)).setCell ⟨w.heap.size + 1, 0, none⟩ (.int .i64 h.id)).setCell ⟨w.heap.size + 1, 1, none⟩ (.slice A2 m c2)).setCell ⟨w.heap.size + 1, 2, none⟩ (.int .i64 h.frm) |>.setCell ⟨w.heap.size + 1, 3, none⟩ (.int .i64 h.to)) :=
    ((((HB1.out.setCell (p := ⟨_, _, none⟩) (Nat.le_refl _) _).setCell (p := ⟨_, _, none⟩) (Nat.le_succ _) _).setCell (p := ⟨_, _, none⟩) (Nat.le_succ _) _).setCell (p := ⟨_, _, none⟩) (Nat.le_succ _) _).setCell (p := ⟨_, _, none⟩) (Nat.le_succ _) _
  have hown : ((((w1.setCell ⟨w.heap.size, 1, none⟩ (.slice A2 m c2)).setCell ⟨w.heap.size + 1, 0, none⟩ (.int .i64 h.id)).setCell ⟨w.heap.size + 1, 1, none⟩ (.slice A2 m c2)).setCell ⟨w.heap.size + 1, 2, none⟩ (.int .i64 h.frm) |>.setCell ⟨w.heap.size + 1, 3, none⟩ (.int .i64 h.to)).ownsRow W.heap.size 3 1 (.slice A2 m c2) m (h.things.map (Value.int .i64)) :=
    own_keep HO.out fun b hb => by
      have := HSZ.out
      rw [Below.heap_setCell _ _ _ _ (show b ≠ w.heap.size + 1 by omega), Below.heap_setCell _ _ _ _ (show b ≠ w.heap.size + 1 by omega), Below.heap_setCell _ _ _ _ (show b ≠ w.heap.size + 1 by omega), Below.heap_setCell _ _ _ _ (show b ≠ w.heap.size + 1 by omega), Below.heap_setCell _ _ _ _ (show b ≠ w.heap.size by omega)]
  have r0 := b1.c0
  have r1 := b1.c1
  have r2 := b1.c2
  have r3 := b1.c3
  refine bodyPost_ret (v := .agg #[.int .i64 h.id, .slice A2 m c2, .int .i64 h.frm, .int .i64 h.to]) (by simp [results, Tryz.results44, go_sem, r0, r1, r2, r3]) rfl ⟨⟨A2, c2, rfl, ⟨RI.of_own hown, HF.out.1, HF.out.2, by unfold maxLen; omega, HH.out.int⟩, ⟨A2, m, c2, rfl, (rn_own hown).keep ei_steady (fun _ _ => rfl) (fun b hb => ⟨by have := HSZ.out; omega, hb.2⟩), HF.out.1, HF.out.2, by unfold maxLen; omega, HH.out.int⟩⟩, hbel⟩

set_option maxRecDepth 100000 in
set_option maxHeartbeats 2000000 in
/-- a clone of a table lies in memory of its own; what its holdings reach is as it was -/
theorem cloneQ_any (B : Nat) (A : Option Addr) (n c : Nat) (l : Tb) (w : World) (hB : B ≤ w.heap.size) (hr : RT w B A n l) (hnil : A = none → c = 0) (hn : n ≤ 1000) :
    Calls Tryz.prog 61 #[.slice A n c] w fun e w' => ∃ v, e = .returned v ∧ Below w.heap.size w w' ∧ RowQ EH 4 41 (Lt B) w.heap.size v l w' := by
  obtain ⟨i0, hi0, hz0, hz1, hz2⟩ : ∃ i, Tryz.prog.info? 41 = some i ∧ i.zero = some (.agg #[.int .i64 0, .slice none 0 0, .int .i64 0, .int .i64 0]) ∧ i.size = 4 ∧ i.bytes = 48 := info_parts held_info
  have HR := Lib.hid hr
  have q22 : ∀ (w : World) (a : Option Addr) (n c n' c' : Nat), (binOp .eql 24 (.slice a n c) (.slice none n' c')).run Tryz.prog w = .ok (.bool a.isNone) w := fun w a n c n' c' => Lib.run_eql_slice_nil w _ _ a n c n' c' Tryz.underlying24
  cases A with
  | none =>
    obtain rfl := hnil rfl
    have hn0 : n = 0 := by
      rcases Nat.eq_zero_or_pos n with h0 | h0
      · exact h0
      · obtain ⟨b, off, e', _⟩ := hr.2 h0; cases e'
    subst hn0
    have hxs : Hid (l = []) := Lib.hid (List.eq_nil_of_length_eq_zero hr.1)
    clear hr hnil hn
    go_enter Tryz.func61, Tryz.ntmps61
    go_wp2
    go_ret
    exact ⟨_, rfl, Below.refl _ _, by rw [hxs.out]; exact ⟨[], by simpa using World.ownsRow_nil w w.heap.size 41 4, fun j x h => by simp at h⟩⟩
  | some ad =>
    obtain ⟨fl, f1, f2, f3⟩ : ∃ fl : List Value, fl.length = n * 4 ∧ (∀ j u, fl[j]? = some u → w.cell? (ad.add j) = some u) ∧ ∀ j x, l[j]? = some x → EH w (Lt B) x ((fl.drop (j * 4)).take 4) := by
      rcases Nat.eq_zero_or_pos n with h0 | h0
      · subst h0
        have : l = [] := List.eq_nil_of_length_eq_zero hr.1
        subst this
        exact ⟨[], rfl, fun j u h => by simp at h, fun j x h => by simp at h⟩
      · obtain ⟨b, off, e, hb, hc⟩ := hr.2 h0
        injection e with e
        subst e
        obtain ⟨fl, k1, k2, k3⟩ := flat_of (C := 4) l off hc
        exact ⟨fl, by rw [k1, hr.1], fun j u hu => by rw [show (⟨b, off, none⟩ : Addr).add j = ⟨b, off + j, none⟩ by unfold Addr.add; split <;> simp_all]; exact k2 j u hu, k3⟩
    have F1 := Lib.hid f1
    have F2 : Hid (∀ j u, fl[j]? = some u → (w.alloc (.cells #[] 41)).cell? (ad.add j) = some u) := Lib.hid (fun j u hu => by
      have h1 := f2 j u hu
      have hlt : (ad.add j).block < w.heap.size := World.block_lt_of_cell? _ _ h1
      exact (((Below.refl _ w).alloc (Nat.le_refl _) _).cell hlt).trans h1)
    have F3 := Lib.hid f3
    have FO : Hid (∀ u ∈ fl, u.oneCell' = true) := Lib.hid (flat_one (by rw [f1, hr.1]) f3)
    have HL := Lib.hid hr.1
    clear hr hnil f1 f2 f3
    go_enter Tryz.func61, Tryz.ntmps61
    go_wp2_with (at_builtin; refine wpList_append_own _ rfl _ _ 24 rfl w.heap.size 41 i0 (.agg #[.int .i64 0, .slice none 0 0, .int .i64 0, .int .i64 0]) 4 48 Tryz.underlying24 hi0 hz0 hz1 hz2 rfl (by decide) (.slice (some ⟨w.heap.size, 0, none⟩) 0 0) 0 [] rfl (World.ownsRow_made w #[] 0 (Nat.le_refl _) (Nat.zero_le _) rfl) ad n c fl rfl F1.out F2.out FO.out (by unfold maxLen; omega) (by omega) (by simp) ?_; intro v' w1 hown hgrow _; refine Hid.out ?_)
    refine Lib.hid ?_
    have hb1 : Below w.heap.size w w1 := ((Below.refl _ w).alloc (Nat.le_refl _) _).grown hgrow (by simp) (by intro k hk; have hk' : w.heap.size = k := (by simpa [Value.ownBlock] using hk); omega)
    have HO : Hid (RowQ EH 4 41 (Lt B) w.heap.size v' l w1) := Lib.hid ⟨fl, by have h := hown; rw [Nat.zero_add, List.nil_append] at h; rw [HL.out]; exact h, fun j x hx => eh_steady.keep (F3.out j x hx) (fun b hb => hb1.block b (Nat.lt_of_lt_of_le hb hB)) (fun _ h => h)⟩
    have HB1 := Lib.hid hb1
    clear hown hgrow hb1
    go_wp2
    go_ret
    exact ⟨_, rfl, HB1.out, HO.out⟩

theorem cloneH_any (A : Option Addr) (n c : Nat) (l : Tb) (w : World) (hr : RT w w.heap.size A n l) (hnil : A = none → c = 0) (hn : n ≤ 1000) :
    Calls Tryz.prog 61 #[.slice A n c] w fun e w' => ∃ v, e = .returned v ∧ ON EH 4 41 w v l w' :=
  (cloneQ_any w.heap.size A n c l w (Nat.le_refl _) hr hnil hn).mono fun _ _ ⟨v, h1, h2, h3⟩ => ⟨v, h1, h3.on eh_steady h2 (fun b hb => ⟨Nat.lt_of_lt_of_le hb h2.size, fun e => by
    have := (h3.own b e).1
    have hb' : b < w.heap.size := hb
    omega⟩)⟩
theorem set_getD {l : Tb} {k : Nat} (hk : k < l.length) : l.set k (l.getD k hd0) = l := by
  rw [List.getD, List.getElem?_eq_getElem hk]
  exact List.set_getElem_self hk
set_option maxRecDepth 100000 in
set_option maxHeartbeats 8000000 in
theorem heldSame_any (A : Option Addr) (n c : Nat) (l : Tb) (w : World) (hr : RT w w.heap.size A n l) (hnil : A = none → c = 0) (hf : FewT l) :
    Calls Tryz.prog 40 #[.slice A n c] w fun e w' => ∃ v, e = .returned v ∧ ON EH 4 41 w v l w' := by
  have HL := Lib.hid hr.len
  have HF := Lib.hid hf
  have hn : n ≤ 100 := by rw [← hr.len]; exact hf.1
  have HC := Lib.hid (cloneH_any A n c l w hr hnil (by omega))
  clear hr hnil hf
  go_enter Tryz.func40, Tryz.ntmps40
  go_wp2_with fail
  refine HC.out.mono ?_
  rintro e w1 ⟨v, rfl, hon⟩
  obtain ⟨A1, c1, rfl, _, _⟩ := hon.form
  have HO := Lib.hid hon
  rw [HL.out] at HO ⊢
  clear hon
  go_wp2
  go_loopw [10] (fun i wr => ∃ k : Nat, k ≤ n ∧ i = .int .i64 k ∧ ON EH 4 41 w (.slice A1 n c1) l wr) (fun i _ => n - (intOf i).toNat)
  case atStart => exact ⟨0, Nat.zero_le _, rfl, HO.out⟩
  case round =>
    obtain ⟨k, hk, rfl, hrel⟩ := hrel
    have HK := Lib.hid hrel
    have HB := Lib.hid hrel.below
    clear hrel
    by_cases hlt : k < n
    · have hkl : k < l.length := by rw [HL.out]; exact hlt
      obtain ⟨b, off, A2, m2, c2, e, hbl, c0, c1', c2', c3', hx⟩ := RT.one (HK.out.reads eh_steady (by omega) rfl) hlt
      obtain ⟨g, hg, hgb, hgl⟩ := HK.out.head (by omega)
      have hmx := HF.out.at hkl
      have hset := set_getD hkl
      rw [hg] at e
      injection e with e
      injection e with e1 e2
      subst e1 e2 hg
      obtain ⟨x, hxx⟩ : ∃ x, l.getD k hd0 = x := ⟨_, rfl⟩
      rw [hxx] at c0 c2' c3' hx hmx hset
      have HS := Lib.hid hset
      have hm2 : m2 ≤ 1000 := by have := hx.reads.1; omega
      have hba : Below wr.heap.size wr (wr.alloc (hO x A2 m2 c2)) := (Below.refl _ _).alloc (Nat.le_refl _) _
      have HX := Lib.hid (hx.next hba)
      have HK1 := Lib.hid (HK.out.next eh_steady hba)
      have HBX : Hid (BoxH (wr.alloc (hO x A2 m2 c2)) wr.heap.size x A2 m2 c2) := Lib.hid (boxH_new wr x A2 m2 c2)
      have HGL : Hid (g < (wr.alloc (hO x A2 m2 c2)).heap.size) := Lib.hid (by simp; omega)
      unfold hO at HX HK1 HBX HGL
      have q0 := HBX.out.c0
      have q1 := HBX.out.c1
      have q2 := HBX.out.c2
      have q3 := HBX.out.c3
      simp only [Nat.zero_add] at c0 c1' c2' c3'
      clear hba hx hxx hmx hset hbl hgb hgl hkl
      go_wp2_with fail
      refine (own_any A2 m2 c2 x _ HX.out hm2).mono ?_
      rintro e w5 ⟨⟨A5, c5, rfl, hx5, he5⟩, hb5⟩
      have HK5 := Lib.hid (HK1.out.next eh_steady hb5)
      have HE5 : Hid (EH w5 (fun b => b < w5.heap.size ∧ b ≠ g) x _) := Lib.hid (eh_steady.keep he5 (fun _ _ => rfl) (fun b hb => ⟨hb.2, fun e => by have h1 := hb.1; have h2 := HGL.out; omega⟩))
      clear hx5 he5 hb5 q0 q1 q2 q3
      have HK6 := Lib.hid (HK5.out.set4 eh_steady (i := k) (by rw [HL.out]; exact hlt) HE5.out)
      rw [HS.out] at HK6
      obtain ⟨⟨u0, q0⟩, z0⟩ := HK5.out.block (i := k * 4) (by omega)
      obtain ⟨⟨u1, q1⟩, z1⟩ := HK5.out.block (i := k * 4 + 1) (by omega)
      obtain ⟨⟨u2, q2⟩, z2⟩ := HK5.out.block (i := k * 4 + 2) (by omega)
      obtain ⟨⟨u3, q3⟩, z3⟩ := HK5.out.block (i := k * 4 + 3) (by omega)
      go_wp2
      go_roundw
      case rel => exact ⟨k + 1, by omega, by go_num, HK6.out⟩
      case measure => simp [intOf]; omega
    · have hkn : k = n := by omega
      go_wp2
      go_ret
      exact ⟨_, rfl, HK.out⟩

end Go.Proofs.YtchogijdkagiiaaGreatDoor

namespace Go.Proofs.YtchogijdkagiiaaGreatDoor
open Go.RowKit

def timeB (t : Int) : Bool := decide (0 ≤ t ∧ t ≤ 4611686018427387904)

theorem ret_bl {a b : Bool} (h : b = a) : Ending.returned (.bool a) = .returned (.bool b) := by rw [h]

theorem near_any (x : Int) (w : World) : Calls Tryz.prog 58 #[.int .i64 x] w fun e w' => e = .returned (.int .i64 (nearZ x)) ∧ w = w' := by
  by_cases h3 : x < 0
  · have e : Hid (nearZ x = 0) := Lib.hid (by unfold nearZ; rw [if_pos h3])
    have m1 : max x 0 = 0 := by omega
    have m2 : min (0 : Int) 4611686018427387904 = 0 := by omega
    go_enter Tryz.func58, Tryz.ntmps58
    go_wp2
    go_ret
    exact ⟨ret_num e.out.symm, rfl⟩
  · have m1 : max x 0 = x := by omega
    by_cases h4 : 4611686018427387904 < x
    · have e : Hid (nearZ x = 4611686018427387904) := Lib.hid (by unfold nearZ; rw [if_neg h3, if_pos h4])
      have m2 : min x 4611686018427387904 = 4611686018427387904 := by omega
      go_enter Tryz.func58, Tryz.ntmps58
      go_wp2
      go_ret
      exact ⟨ret_num e.out.symm, rfl⟩
    · have e : Hid (nearZ x = x) := Lib.hid (by unfold nearZ; rw [if_neg h3, if_neg h4])
      have m2 : min x 4611686018427387904 = x := by omega
      go_enter Tryz.func58, Tryz.ntmps58
      go_wp2
      go_ret
      refine ⟨ret_num ?_, rfl⟩
      rw [e.out]

theorem whenRight_any (t : Int) (w : World) : Calls Tryz.prog 63 #[.int .i64 t] w fun e w' => e = .returned (.bool (timeB t)) ∧ w = w' := by
  by_cases h : 0 ≤ t
  · by_cases h2 : t ≤ 4611686018427387904
    · have e : Hid (timeB t = true) := Lib.hid (by unfold timeB; exact decide_eq_true ⟨h, h2⟩)
      go_enter Tryz.func63, Tryz.ntmps63
      go_wp2
      go_ret
      exact ⟨ret_bl e.out, rfl⟩
    · have e : Hid (timeB t = false) := Lib.hid (by unfold timeB; exact decide_eq_false (fun h' => h2 h'.2))
      go_enter Tryz.func63, Tryz.ntmps63
      go_wp2
      go_ret
      exact ⟨ret_bl e.out, rfl⟩
  · have e : Hid (timeB t = false) := Lib.hid (by unfold timeB; exact decide_eq_false (fun h' => h h'.1))
    go_enter Tryz.func63, Tryz.ntmps63
    go_wp2
    go_ret
    exact ⟨ret_bl e.out, rfl⟩


theorem whenPlus_any (t l : Int) (w : World) : Calls Tryz.prog 34 #[.int .i64 t, .int .i64 l] w fun e w' => e = .returned (.int .i64 (plusZ t l)) ∧ w = w' := by
  have e : Hid (plusZ t l = if 4611686018427387904 < nearZ t + nearZ l then 4611686018427387904 else nearZ t + nearZ l) := Lib.hid rfl
  obtain ⟨z, hz⟩ : ∃ z, plusZ t l = z := ⟨_, rfl⟩
  rw [hz] at e ⊢
  clear hz
  go_enter Tryz.func34, Tryz.ntmps34
  go_wp2_with fail
  refine (near_any _ _).mono ?_
  rintro e w1 ⟨rfl, rfl⟩
  go_wp2_with fail
  refine (near_any _ _).mono ?_
  rintro e w1 ⟨rfl, rfl⟩
  have r1 := nearZ_range t
  have r2 := nearZ_range l
  generalize nearZ t = x at *
  generalize nearZ l = y at *
  by_cases h5 : 4611686018427387904 < x + y
  · have e2 : z = 4611686018427387904 := by rw [e.out, if_pos h5]
    have h6 : 4611686018427387904 - x < y := by omega
    subst e2
    clear e
    go_wp2
    go_ret
    exact ⟨rfl, rfl⟩
  · have e2 : z = x + y := by rw [e.out, if_neg h5]
    have h6 : ¬ 4611686018427387904 - x < y := by omega
    subst e2
    clear e
    go_wp2
    go_ret
    exact ⟨rfl, rfl⟩

theorem whenRight_b (t : Int) (w : World) (b : Bool) (h : timeB t = b) : Calls Tryz.prog 63 #[.int .i64 t] w fun e w' => e = .returned (.bool b) ∧ w = w' := by
  subst h
  exact whenRight_any t w

end Go.Proofs.YtchogijdkagiiaaGreatDoor

namespace Go.Proofs.YtchogijdkagiiaaGreatDoor
open Go.RowKit

theorem meets_max (a b c d : Int) : meetsZ a b c d = decide (max a c < min b d) := by
  unfold meetsZ
  exact decide_eq_decide.2 (by omega)
theorem meets_any {a b c d : Int} {v : Bool} {w : World} (h : meetsZ a b c d = v) : Calls Tryz.prog 60 #[.int .i64 a, .int .i64 b, .int .i64 c, .int .i64 d] w fun e w' => e = .returned (.bool v) ∧ Below w.heap.size w w' := by
  rw [meets_max] at h
  obtain ⟨p, hp⟩ : ∃ p, max a c = p := ⟨_, rfl⟩
  obtain ⟨q, hq⟩ : ∃ q, min b d = q := ⟨_, rfl⟩
  rw [hp, hq] at h
  have HH := Lib.hid h
  clear h
  go_enter Tryz.func60, Tryz.ntmps60
  go_wp2
  all_goals
    go_ret
    exact ⟨ret_bl (HH.out.symm.trans (decide_eq_decide.2 (by omega))), Below.refl _ _⟩
theorem may_times (h : Hd) : mayH h = (decide (0 < h.things.length) && (rightB h.things && (timeB h.frm && (timeB h.to && decide (h.frm < h.to))))) := by
  unfold timeB
  rw [Bool.eq_iff_iff]
  unfold mayH
  simp only [decide_eq_true_eq, Bool.and_eq_true]
  unfold MayH
  constructor
  · rintro ⟨h1, h2, h3, h4, h5⟩
    exact ⟨h1, h2, ⟨h3, by omega⟩, ⟨by omega, h5⟩, h4⟩
  · rintro ⟨h1, h2, h3, h4, h5⟩
    exact ⟨h1, h2, h3.1, h5, h4.2⟩
theorem time_b {t : Int} {w : World} {b : Bool} (h : timeB t = b) : Calls Tryz.prog 63 #[.int .i64 t] w fun e w' => e = .returned (.bool b) ∧ Below w.heap.size w w' :=
  (whenRight_b t w b h).mono fun _ _ ⟨h1, h2⟩ => ⟨h1, by rw [← h2]; exact Below.refl _ _⟩

set_option maxRecDepth 100000 in
set_option maxHeartbeats 8000000 in
theorem may_any {A : Option Addr} {m c : Nat} {h : Hd} {w : World} {v : Bool} (hh : HAsk w A m c h) (hv : mayH h = v) :
    Calls Tryz.prog 41 #[.agg #[.int .i64 h.id, .slice A m c, .int .i64 h.frm, .int .i64 h.to]] w fun e w' => e = .returned (.bool v) ∧ Below w.heap.size w w' := by
  obtain ⟨W, hW⟩ : ∃ W, W = w.alloc (hO h A m c) := ⟨_, rfl⟩
  have BX : Hid (BoxH W w.heap.size h A m c) := Lib.hid (by rw [hW]; exact boxH_new w h A m c)
  have hb0 : Below w.heap.size w W := by rw [hW]; exact (Below.refl _ _).alloc (Nat.le_refl _) _
  have HB := Lib.hid hb0
  have HH := Lib.hid (hh.next hb0)
  have hml := hh.reads.1
  unfold hO at hW
  rw [may_times, hml] at hv
  have HV := Lib.hid hv
  clear hb0 hh hml hv
  have q0 := BX.out.c0
  have q1 := BX.out.c1
  have q2 := BX.out.c2
  have q3 := BX.out.c3
  by_cases h0 : 0 < m
  · have d0 : decide (0 < m) = true := decide_eq_true h0
    rw [d0, Bool.true_and] at HV
    cases hr : rightB h.things with
    | false =>
      rw [hr, Bool.false_and] at HV
      have HR := Lib.hid hr
      clear hr
      go_enter Tryz.func41, Tryz.ntmps41
      go_wp2_with fail
      rw [← hW]
      clear hW
      refine (s_isSet HH.out.reads HH.out.few HR.out).mono ?_
      rintro e w1 ⟨rfl, hb⟩
      have HB1 := Lib.hid (HB.out.trans (hb.mono HB.out.size))
      have BX1 := Lib.hid (BX.out.next hb)
      clear hb q0 q1 q2 q3
      go_wp2
      go_ret
      exact ⟨by rw [← HV.out]; rfl, HB1.out⟩
    | true =>
      rw [hr, Bool.true_and] at HV
      have HR := Lib.hid hr
      clear hr
      cases hf : timeB h.frm with
      | false =>
        rw [hf, Bool.false_and] at HV
        have HF := Lib.hid hf
        clear hf
        go_enter Tryz.func41, Tryz.ntmps41
        go_wp2_with fail
        rw [← hW]
        clear hW
        refine (s_isSet HH.out.reads HH.out.few HR.out).mono ?_
        rintro e w1 ⟨rfl, hb⟩
        have HB1 := Lib.hid (HB.out.trans (hb.mono HB.out.size))
        have BX1 := Lib.hid (BX.out.next hb)
        clear hb q0 q1 q2 q3
        have q2 := BX1.out.c2
        have q3 := BX1.out.c3
        go_wp2_with fail
        refine (time_b HF.out).mono ?_
        rintro e w2 ⟨rfl, hb⟩
        have HB2 := Lib.hid (HB1.out.trans (hb.mono HB1.out.size))
        clear hb q2 q3
        go_wp2
        go_ret
        exact ⟨by rw [← HV.out]; rfl, HB2.out⟩
      | true =>
        rw [hf, Bool.true_and] at HV
        have HF := Lib.hid hf
        clear hf
        cases ht : timeB h.to with
        | false =>
          rw [ht, Bool.false_and] at HV
          have HT := Lib.hid ht
          clear ht
          go_enter Tryz.func41, Tryz.ntmps41
          go_wp2_with fail
          rw [← hW]
          clear hW
          refine (s_isSet HH.out.reads HH.out.few HR.out).mono ?_
          rintro e w1 ⟨rfl, hb⟩
          have HB1 := Lib.hid (HB.out.trans (hb.mono HB.out.size))
          have BX1 := Lib.hid (BX.out.next hb)
          clear hb q0 q1 q2 q3
          have q2 := BX1.out.c2
          have q3 := BX1.out.c3
          go_wp2_with fail
          refine (time_b HF.out).mono ?_
          rintro e w2 ⟨rfl, hb⟩
          have HB2 := Lib.hid (HB1.out.trans (hb.mono HB1.out.size))
          have BX2 := Lib.hid (BX1.out.next hb)
          clear hb q2 q3
          have q2 := BX2.out.c2
          have q3 := BX2.out.c3
          go_wp2_with fail
          refine (time_b HT.out).mono ?_
          rintro e w3 ⟨rfl, hb⟩
          have HB3 := Lib.hid (HB2.out.trans (hb.mono HB2.out.size))
          clear hb q2 q3
          go_wp2
          go_ret
          exact ⟨by rw [← HV.out]; rfl, HB3.out⟩
        | true =>
          rw [ht, Bool.true_and] at HV
          have HT := Lib.hid ht
          clear ht
          have hv := HV.out
          go_enter Tryz.func41, Tryz.ntmps41
          go_wp2_with fail
          rw [← hW]
          clear hW
          refine (s_isSet HH.out.reads HH.out.few HR.out).mono ?_
          rintro e w1 ⟨rfl, hb⟩
          have HB1 := Lib.hid (HB.out.trans (hb.mono HB.out.size))
          have BX1 := Lib.hid (BX.out.next hb)
          clear hb q0 q1 q2 q3
          have q2 := BX1.out.c2
          have q3 := BX1.out.c3
          go_wp2_with fail
          refine (time_b HF.out).mono ?_
          rintro e w2 ⟨rfl, hb⟩
          have HB2 := Lib.hid (HB1.out.trans (hb.mono HB1.out.size))
          have BX2 := Lib.hid (BX1.out.next hb)
          clear hb q2 q3
          have q2 := BX2.out.c2
          have q3 := BX2.out.c3
          go_wp2_with fail
          refine (time_b HT.out).mono ?_
          rintro e w3 ⟨rfl, hb⟩
          have HB3 := Lib.hid (HB2.out.trans (hb.mono HB2.out.size))
          have BX3 := Lib.hid (BX2.out.next hb)
          clear hb q2 q3
          have q2 := BX3.out.c2
          have q3 := BX3.out.c3
          go_wp2
          all_goals
            go_ret
            exact ⟨ret_bl (by first | rfl | exact HV.out | (rw [← HV.out]; simp_all)), HB3.out⟩
  · have d0 : decide (0 < m) = false := decide_eq_false h0
    rw [d0, Bool.false_and] at HV
    go_enter Tryz.func41, Tryz.ntmps41
    go_wp2_with fail
    rw [← hW]
    clear hW
    go_wp2
    go_ret
    exact ⟨by rw [← HV.out]; rfl, HB.out⟩

end Go.Proofs.YtchogijdkagiiaaGreatDoor

namespace Go.Proofs.YtchogijdkagiiaaGreatDoor
open Go.RowKit

section
variable {l : Tb} {h a b : Hd}
theorem add_no (h0 : addE l h ≠ 0) : addT l h = l := if_neg h0
theorem add_yes (hm : MayAdd l h) : addT l h = insT l h := if_pos (add_ok.2 hm)
theorem sameT_self (l : Tb) : sameT' l l = true := sameT_iff.2 rfl
theorem busy_len (l : Tb) (a b : Int) : (busyT l a b).length ≤ 256 := by
  unfold busyT
  split
  · exact length_pickL _
  · simp
theorem addE_there (hr : rightT l = true) (hm : mayH h = true) (ht : hasT l h.id = true) : addE l h = 7 := by
  unfold addE
  rw [if_neg (by rw [hr, hm]; simp), if_pos ht]
theorem addE_apart (hr : rightT l = true) (hm : mayH h = true) (ht : hasT l h.id = false) (hl : l.length ≤ 30) : (addE l h == 0) = apartB (busyT l h.frm h.to) h.things := by
  have e : addE l h = if (l.any fun x => clashH x h) = true then 5 else 0 := by
    unfold addE
    rw [if_neg (by rw [hr, hm]; simp), if_neg (by rw [ht]; simp)]
    by_cases hc : (l.any fun x => clashH x h) = true
    · rw [if_pos (.inr hc), if_pos hc]
    · rw [if_neg (fun h1 => h1.elim (fun h1 => by omega) hc), if_neg hc]
  have hrh := (of_decide_eq_true hm).2.1
  have ha : apartB (busyT l h.frm h.to) h.things = !(l.any fun x => clashH x h) := by
    rw [Bool.eq_iff_iff]
    unfold apartB
    rw [busy_right, hrh, Bool.true_and, Bool.true_and, List.all_eq_true, Bool.not_eq_true', List.any_eq_false]
    constructor
    · intro hh x hx hcl
      unfold clashH at hcl
      rw [Bool.and_eq_true] at hcl
      obtain ⟨n, h1, h2⟩ := touch_iff.1 hcl.2
      have := hh n ((mem_busy hr).2 ⟨x, hx, hcl.1, h1⟩)
      rw [List.contains_iff_mem.2 h2] at this
      cases this
    · intro hh n hn
      obtain ⟨x, hx, h1, h2⟩ := (mem_busy hr).1 hn
      have := hh x hx
      cases hc : h.things.contains n with
      | false => rfl
      | true =>
        refine absurd ?_ this
        unfold clashH
        rw [h1, touch_iff.2 ⟨n, h2, List.contains_iff_mem.1 hc⟩]
        rfl
  rw [e, ha]
  cases l.any fun x => clashH x h <;> rfl
theorem got_is (hr : rightT l = true) (id : Int) : gotT l id = hasT l id := by unfold gotT; rw [hr, Bool.true_and]
theorem getD_in {l : Tb} {j : Nat} (hj : j < l.length) : l.getD j hd0 ∈ l := by
  rw [List.getD, List.getElem?_eq_getElem hj]; exact List.getElem_mem hj
theorem ends_len (l : Tb) (z : Int) : (endsT l z).length ≤ l.length := by
  unfold endsT
  split
  · have key : ∀ (x : Int) (l : List Int), (insZ x l).length ≤ l.length + 1 := by
      intro x l
      induction l with
      | nil => simp [insZ]
      | cons y r ih =>
        unfold insZ
        split
        · simp
        · split <;> simp
          omega
    have h1 : ∀ l : List Int, (l.foldr insZ []).length ≤ l.length := by
      intro l
      induction l with
      | nil => simp
      | cons x r ih =>
        have := key x (r.foldr insZ [])
        simp only [List.foldr_cons, List.length_cons]
        omega
    have h2 := h1 ((l.map Hd.to).filter fun t => decide (z < t))
    have h3 := List.length_filter_le (fun t : Int => decide (z < t)) (l.map Hd.to)
    rw [List.length_map] at h3
    omega
  · simp
end
section
variable {A : Option Addr} {n c : Nat} {A2 : Option Addr} {n2 c2 : Nat} {l a b : Tb} {w : World}
theorem short_b (hl : TAsk w A n c l) {v : Bool} (e : shortT l = v) : Calls Tryz.prog 11 #[.slice A n c] w fun e w' => e = .returned (.bool v) ∧ Below w.heap.size w w' := by
  subst e
  refine (refShortT_any A n c l w hl.reads hl.few).mono ?_
  rintro e w' ⟨rfl, rfl⟩
  exact ⟨rfl, Below.refl _ _⟩
theorem sameT_b (ha : TAsk w A n c a) (hb : TAsk w A2 n2 c2 b) {v : Bool} (e : sameT' a b = v) : Calls Tryz.prog 14 #[.slice A n c, .slice A2 n2 c2] w fun e w' => e = .returned (.bool v) ∧ Below w.heap.size w w' := by
  subst e; exact refSameT_any A n c A2 n2 c2 a b w ha.reads hb.reads ha.few hb.few
end

end Go.Proofs.YtchogijdkagiiaaGreatDoor

namespace Go.Proofs.YtchogijdkagiiaaGreatDoor

section
variable {g : Gr} {use : List Int} {l : Tb} {s : Sp} {t u : Int}
/-- the times that count, rising -/
def ticksS (l : Tb) (frm : Int) : List Int := frm :: endsT l frm
theorem mem_endsT (hr : rightT l = true) {y z : Int} : y ∈ endsT l z ↔ z < y ∧ ∃ x ∈ l, x.to = y := by
  unfold endsT
  rw [if_pos hr, mem_foldZ, List.mem_filter, List.mem_map, decide_eq_true_eq]
  exact ⟨fun h => ⟨h.2, h.1⟩, fun h => ⟨h.2, h.1⟩⟩
theorem endsT_wrong (hr : rightT l = false) {z : Int} : endsT l z = [] := by
  unfold endsT
  rw [if_neg (by rw [hr]; decide)]
theorem ticks_mem (hr : rightT l = true) : u ∈ ticksS l t ↔ u ∈ timesS l t := by
  unfold ticksS
  rw [List.mem_cons, mem_endsT hr, mem_timesS]
theorem ticks_rise (l : Tb) (t : Int) : Rising (ticksS l t) := by
  unfold ticksS
  cases hr : rightT l with
  | true =>
    refine List.pairwise_cons.2 ⟨fun y hy => ((mem_endsT hr).1 hy).1, ?_⟩
    unfold endsT
    rw [if_pos hr]
    exact rising_foldZ _
  | false =>
    rw [endsT_wrong hr]
    exact List.pairwise_singleton _ _
theorem ticks_len : (ticksS l t).length ≤ l.length + 1 := by
  unfold ticksS
  have := ends_len l t
  rw [List.length_cons]
  omega
theorem tick_at {k : Nat} (hk : k < (ticksS l t).length) : (ticksS l t).getD k 0 = (ticksS l t)[k] := by rw [List.getD, List.getElem?_eq_getElem hk]; rfl
/-- the k-th time is the first that fits -/
theorem tick_first (hr : rightT l = true) {k : Nat} (hk : k < (ticksS l t).length) (hno : ∀ j, j < k → ¬ FitsS g use l s u ((ticksS l t).getD j 0)) (hf : FitsS g use l s u ((ticksS l t).getD k 0)) : firstS g use l s t u = some ((ticksS l t).getD k 0) := by
  refine firstS_some.2 ⟨⟨(ticks_mem hr).1 (by rw [tick_at hk]; exact List.getElem_mem hk), hf⟩, fun y hy hfy => ?_⟩
  obtain ⟨j, hj, e⟩ := List.getElem_of_mem ((ticks_mem hr).2 hy)
  by_cases h1 : j < k
  · refine absurd hfy ?_
    rw [← e, ← tick_at hj]
    exact hno j h1
  · rw [← e, tick_at hk]
    by_cases h2 : k = j
    · subst h2; exact Int.le_refl _
    · have := List.pairwise_iff_getElem.1 (ticks_rise l t) k j hk hj (by omega)
      omega
theorem tick_none (hr : rightT l = true) (hno : ∀ j, j < (ticksS l t).length → ¬ FitsS g use l s u ((ticksS l t).getD j 0)) : firstS g use l s t u = none := by
  refine firstS_none.2 fun y hy hf => ?_
  obtain ⟨j, hj, e⟩ := List.getElem_of_mem ((ticks_mem hr).2 hy)
  refine hno j hj ?_
  rw [tick_at hj, e]
  exact hf
/-- of no table there is none -/
theorem first_wrong (hr : rightT l = false) : firstS g use l s t u = none := firstS_none.2 fun y _ hf => by
  have := hf.2.1
  rw [hr] at this; cases this
theorem had_nil : hadB g [] s = false := by
  rw [Bool.eq_false_iff]
  intro h
  obtain ⟨hm, hn⟩ := hadB_is.1 h
  have h1 := rightS_is (mayB_is hm).2.2
  have h2 : cntS g [] s g.length = 0 := cntP_zero fun k _ => by
    rw [Bool.eq_false_iff]
    intro hk
    have := (suitP_is.1 hk).2.1
    unfold hasB at this
    rw [Bool.and_eq_true] at this
    cases this.2
  rw [h2] at hn
  omega
/-- what is left of no set is nothing, and nothing fits there -/
theorem at_had (h0 : 0 ≤ t) (h1 : t < 4611686018427387904) (hr : rightT l = true) (he : endsS s t ≤ u) :
    hadB g (lessL use (busyT l t (endsS s t))) s = decide (FitsS g use l s u t) ∧ findL g (lessL use (busyT l t (endsS s t))) s = gotS g use l s u t := by
  cases hu : rightB use with
  | true =>
    cases hh : hadB g (lessL use (busyT l t (endsS s t))) s with
    | true =>
      have hf : FitsS g use l s u t := ⟨⟨h0, h1⟩, hr, hu, he, hh⟩
      exact ⟨(decide_eq_true hf).symm, (gotS_is hf).symm⟩
    | false =>
      have hf : ¬ FitsS g use l s u t := fun h => by
        have := h.2.2.2.2
        unfold freeS at this
        rw [this] at hh; cases hh
      exact ⟨(decide_eq_false hf).symm, by rw [gotS_no hf, findL_no hh]⟩
  | false =>
    have hf : ¬ FitsS g use l s u t := fun h => by rw [h.2.2.1] at hu; cases hu
    have e : lessL use (busyT l t (endsS s t)) = [] := by
      unfold lessL whichL
      rw [hu, Bool.false_and]
      rfl
    rw [e]
    exact ⟨by rw [had_nil, decide_eq_false hf], by rw [gotS_no hf, findL_no had_nil]⟩
theorem fits_not (h : ¬ (0 ≤ t ∧ t < 4611686018427387904) ∨ u < endsS s t) : ¬ FitsS g use l s u t := fun hf => by
  rcases h with h | h
  · exact h hf.1
  · have := hf.2.2.2.1
    omega
/-- what is found is something -/
theorem find_some {F : List Int} (h : hadB g F s = true) : 0 < (findL g F s).length := by
  obtain ⟨hm, hn⟩ := hadB_is.1 h
  obtain ⟨hg, hF, hs⟩ := mayB_is hm
  have h1 := rightS_is hs
  have h2 : ∃ k, k < g.length ∧ selP g F s k = true := by
    refine Classical.byContradiction fun hno => ?_
    have h3 : cntP (selP g F s) g.length = 0 := cntP_zero fun k hk => by
      rw [Bool.eq_false_iff]
      exact fun h4 => hno ⟨k, hk, h4⟩
    have h5 := cntP_ahead (suitP g F s) s.nodes.toNat g.length
    have h6 : (fun x => suitP g F s x && decide (cntP (suitP g F s) x < s.nodes.toNat)) = selP g F s := by
      funext x
      unfold selP cntS
      congr 1
      rw [decide_eq_decide]
      omega
    rw [h6, h3] at h5
    unfold cntS at hn
    omega
  obtain ⟨k, hk, hsel⟩ := h2
  have h3 := here_some hg hs hk hsel
  rw [← here_is h hk (suit_node (sel_suit hsel))] at h3
  obtain ⟨x, hx⟩ := List.exists_mem_of_length_pos h3
  exact List.length_pos_of_mem ((mem_meetL (findL_right hg) (underL_right hg hk) x).1 hx).1
/-- the holding of what is got: it may be -/
theorem got_may (h : FitsS g use l s u t) (id : Int) : mayH ⟨id, gotS g use l s u t, t, endsS s t⟩ = true := by
  refine decide_eq_true ⟨?_, gotS_right h, h.1.1, endsS_after (fits_spec h).2 h.1.1 h.1.2, endsS_never h.1.1⟩
  show 0 < (gotS g use l s u t).length
  rw [gotS_is h]
  exact find_some h.2.2.2.2
theorem apart_turn {a b : List Int} (ha : rightB a = true) (hb : rightB b = true) (h : apartB a b = true) : apartB b a = true :=
  (apart_iff hb ha).2 fun n h1 h2 => (apart_iff ha hb).1 h n h2 h1
/-- it may be added, if its number isn't there -/
theorem got_add (h : FitsS g use l s u t) (hl : l.length ≤ 30) (id : Int) : addE l ⟨id, gotS g use l s u t, t, endsS s t⟩ = 0 ∨ addE l ⟨id, gotS g use l s u t, t, endsS s t⟩ = 7 := by
  have hm := got_may h id
  cases ht : hasT l id with
  | true => exact .inr (addE_there h.2.1 hm ht)
  | false =>
    left
    have h1 := addE_apart h.2.1 hm ht hl
    rw [apart_turn (gotS_right h) (busy_right _ _) (gotS_apart h)] at h1
    exact beq_iff_eq.1 h1
end

end Go.Proofs.YtchogijdkagiiaaGreatDoor

namespace Go.Proofs.YtchogijdkagiiaaGreatDoor

section
variable {g : Gr} {use : List Int} {l out : Tb} {ws : List Wn} {t u : Int} {k : Nat}
theorem wn_drop (h : k < ws.length) : ws.drop k = ws.getD k wn0 :: ws.drop (k + 1) := by
  rw [List.drop_eq_getElem_cons h, List.getD, List.getElem?_eq_getElem h]; rfl
theorem first_fits {s : Sp} (h : firstBS g use out s t u = true) : ∃ z, firstAtS g use out s t u = z ∧ firstLS g use out s t u = gotS g use out s u z ∧ FitsS g use out s u z := by
  unfold firstBS at h
  obtain ⟨z, hz⟩ := Option.isSome_iff_exists.1 h
  exact ⟨z, (first_some hz).1, (first_some hz).2.1, (firstS_some.1 hz).1.2⟩
theorem first_int {s : Sp} (h : firstBS g use out s t u = true) : I64 (firstAtS g use out s t u) ∧ I64 (endsS s (firstAtS g use out s t u)) ∧ ∀ q ∈ firstLS g use out s t u, I64 q := by
  obtain ⟨z, e1, e2, hf⟩ := first_fits h
  rw [e1, e2]
  refine ⟨by have := hf.1; unfold I64; omega, by unfold endsS plusZ nearZ I64; repeat' split; all_goals omega, fun q hq => ?_⟩
  have := right_mem (gotS_right hf) q hq
  unfold I64; omega
theorem first_len {s : Sp} (h : firstBS g use out s t u = true) : (firstLS g use out s t u).length ≤ 256 := by
  obtain ⟨z, e1, e2, hf⟩ := first_fits h
  rw [e2, gotS_is hf]
  exact findL_len (fits_spec hf).1
end
theorem findL_short {g : Gr} {F : List Int} {s : Sp} : (findL g F s).length ≤ g.length := by
  unfold findL
  split
  · unfold numsF
    rw [List.length_map]
    exact Nat.le_trans (List.length_filter_le _ _) (by rw [List.length_range]; exact Nat.le_refl _)
  · exact Nat.zero_le _
section
variable {g : Gr} {use : List Int} {l : Tb} {u : Int} {h : Hd}
theorem addT_fewS (hf : FewT l) (h0 : addE l h = 0) (hh : h.things.length ≤ 100) (hl : l.length + 1 ≤ 100) : FewT (addT l h) ∧ (addT l h).length = l.length + 1 := by
  have hm := add_ok.1 h0
  rw [add_yes hm]
  have hlen := ins_len hm.new
  refine ⟨⟨by omega, fun x hx => ?_⟩, hlen⟩
  rcases hm.mem.1 hx with h1 | h1
  · exact hf.2 x h1
  · rw [h1]; exact hh
theorem addT_fewA (hf : FewT l) (hh : h.things.length ≤ 100) (hl : l.length + 1 ≤ 100) : FewT (addT l h) ∧ (addT l h).length ≤ l.length + 1 := by
  by_cases h0 : addE l h = 0
  · have := addT_fewS hf h0 hh hl
    exact ⟨this.1, by omega⟩
  · rw [add_no h0]
    exact ⟨hf, by omega⟩
theorem first_short {s : Sp} {t : Int} (h : firstBS g use l s t u = true) : (firstLS g use l s t u).length ≤ g.length := by
  obtain ⟨z, _, e2, hf⟩ := first_fits h
  rw [e2, gotS_is hf]
  exact findL_short
end

end Go.Proofs.YtchogijdkagiiaaGreatDoor

namespace Go.Proofs.YtchogijdkagiiaaGreatDoor

/-- may none be kept any more -/
def fullP (policy depth : Int) (k : Tb) : Bool := decide (policy = 2 ∧ k.length = 1) || decide (policy = 3 ∧ (k.length : Int) = depth)
/-- from a table so far, and those that begin, and are kept, so far: all that begin, all that are kept, and an error's number -/
def pickR (g : Gr) (use : List Int) (now u policy depth : Int) : Tb → Tb → Tb → List Wn → Tb × Tb × Int
  | _, b, k, [] => (b, k, 0)
  | l, b, k, w :: r =>
    if firstBS g use l w.spec now u = true then
      if now < firstAtS g use l w.spec now u then
        if policy = 1 then (b, k, 0)
        else if fullP policy depth k = true then pickR g use now u policy depth l b k r
        else if addE l (heldW g use l w now u) = 0 then pickR g use now u policy depth (addT l (heldW g use l w now u)) b (k ++ [heldW g use l w now u]) r
        else ([], [], addE l (heldW g use l w now u))
      else if addE l (heldW g use l w now u) = 0 then pickR g use now u policy depth (addT l (heldW g use l w now u)) (b ++ [heldW g use l w now u]) k r
      else ([], [], addE l (heldW g use l w now u))
    else pickR g use now u policy depth l b k r
def PickMay (policy depth : Int) (l : Tb) : Prop := (policy = 1 ∨ policy = 2 ∨ policy = 3) ∧ 0 ≤ depth ∧ depth ≤ 64 ∧ rightT l = true
instance (policy depth : Int) (l : Tb) : Decidable (PickMay policy depth l) := by unfold PickMay; infer_instance
def pickA (g : Gr) (use : List Int) (l : Tb) (ws : List Wn) (now u policy depth : Int) : Tb × Tb × Int :=
  if PickMay policy depth l then pickR g use now u policy depth l [] [] ws else ([], [], 1)
/-- has it a later slot in the second table, or none there, and one here -/
def laterA (g : Gr) (use : List Int) (l l2 : Tb) (s : Sp) (now u : Int) : Bool :=
  firstBS g use l s now u && (!firstBS g use l2 s now u || decide (firstAtS g use l s now u < firstAtS g use l2 s now u))
/-- a table with some more, those that can't be added left out -/
def allT (l more : Tb) : Tb := more.foldl addT l

section
variable {g : Gr} {use : List Int} {ws r : List Wn} {now u policy depth : Int} {l l0 b k tab : Tb} {w : Wn} {h x y : Hd}
theorem pickR_pass (h1 : firstBS g use l w.spec now u = false) : pickR g use now u policy depth l b k (w :: r) = pickR g use now u policy depth l b k r := by
  rw [pickR, if_neg (by rw [h1]; decide)]
theorem pickR_stop (h1 : firstBS g use l w.spec now u = true) (h2 : now < firstAtS g use l w.spec now u) (hp : policy = 1) : pickR g use now u policy depth l b k (w :: r) = (b, k, 0) := by
  rw [pickR, if_pos h1, if_pos h2, if_pos hp]
theorem pickR_full (h1 : firstBS g use l w.spec now u = true) (h2 : now < firstAtS g use l w.spec now u) (hp : ¬ policy = 1) (hf : fullP policy depth k = true) : pickR g use now u policy depth l b k (w :: r) = pickR g use now u policy depth l b k r := by
  rw [pickR, if_pos h1, if_pos h2, if_neg hp, if_pos hf]
theorem pickR_keep (h1 : firstBS g use l w.spec now u = true) (h2 : now < firstAtS g use l w.spec now u) (hp : ¬ policy = 1) (hf : fullP policy depth k = false) (h0 : addE l (heldW g use l w now u) = 0) : pickR g use now u policy depth l b k (w :: r) = pickR g use now u policy depth (addT l (heldW g use l w now u)) b (k ++ [heldW g use l w now u]) r := by
  rw [pickR, if_pos h1, if_pos h2, if_neg hp, if_neg (by rw [hf]; decide), if_pos h0]
theorem pickR_beg (h1 : firstBS g use l w.spec now u = true) (h2 : ¬ now < firstAtS g use l w.spec now u) (h0 : addE l (heldW g use l w now u) = 0) : pickR g use now u policy depth l b k (w :: r) = pickR g use now u policy depth (addT l (heldW g use l w now u)) (b ++ [heldW g use l w now u]) k r := by
  rw [pickR, if_pos h1, if_neg h2, if_pos h0]
theorem pickR_errK (h1 : firstBS g use l w.spec now u = true) (h2 : now < firstAtS g use l w.spec now u) (hp : ¬ policy = 1) (hf : fullP policy depth k = false) (h0 : addE l (heldW g use l w now u) ≠ 0) : pickR g use now u policy depth l b k (w :: r) = ([], [], addE l (heldW g use l w now u)) := by
  rw [pickR, if_pos h1, if_pos h2, if_neg hp, if_neg (by rw [hf]; decide), if_neg h0]
theorem pickR_errB (h1 : firstBS g use l w.spec now u = true) (h2 : ¬ now < firstAtS g use l w.spec now u) (h0 : addE l (heldW g use l w now u) ≠ 0) : pickR g use now u policy depth l b k (w :: r) = ([], [], addE l (heldW g use l w now u)) := by
  rw [pickR, if_pos h1, if_neg h2, if_neg h0]
/-- the ways of one that would begin -/
theorem pick_ways (g : Gr) (use : List Int) (l k : Tb) (w : Wn) (now u policy depth : Int) :
    firstBS g use l w.spec now u = false ∨
    (firstBS g use l w.spec now u = true ∧ now < firstAtS g use l w.spec now u ∧ (policy = 1 ∨ (¬ policy = 1 ∧ (fullP policy depth k = true ∨ (fullP policy depth k = false ∧ (addE l (heldW g use l w now u) = 0 ∨ addE l (heldW g use l w now u) ≠ 0)))))) ∨
    (firstBS g use l w.spec now u = true ∧ ¬ now < firstAtS g use l w.spec now u ∧ (addE l (heldW g use l w now u) = 0 ∨ addE l (heldW g use l w now u) ≠ 0)) := by
  cases h1 : firstBS g use l w.spec now u with
  | false => exact .inl rfl
  | true =>
    right
    by_cases h2 : now < firstAtS g use l w.spec now u
    · left
      refine ⟨rfl, h2, ?_⟩
      by_cases hp : policy = 1
      · exact .inl hp
      · right
        refine ⟨hp, ?_⟩
        cases hf : fullP policy depth k with
        | true => exact .inl rfl
        | false => exact .inr ⟨rfl, Decidable.em _⟩
    · exact .inr ⟨rfl, h2, Decidable.em _⟩
/-- beside an error nobody begins, and nobody is kept -/
theorem pickR_err : ∀ (ws : List Wn) (l b k : Tb), (pickR g use now u policy depth l b k ws).2.2 ≠ 0 → (pickR g use now u policy depth l b k ws).1 = [] ∧ (pickR g use now u policy depth l b k ws).2.1 = []
  | [], l, b, k, h => absurd rfl h
  | w :: r, l, b, k, h => by
    rcases pick_ways g use l k w now u policy depth with h1 | ⟨h1, h2, hp | ⟨hp, hf | ⟨hf, h0 | h0⟩⟩⟩ | ⟨h1, h2, h0 | h0⟩
    · rw [pickR_pass h1] at h ⊢; exact pickR_err r _ _ _ h
    · rw [pickR_stop h1 h2 hp] at h; exact absurd rfl h
    · rw [pickR_full h1 h2 hp hf] at h ⊢; exact pickR_err r _ _ _ h
    · rw [pickR_keep h1 h2 hp hf h0] at h ⊢; exact pickR_err r _ _ _ h
    · rw [pickR_errK h1 h2 hp hf h0]; exact ⟨rfl, rfl⟩
    · rw [pickR_beg h1 h2 h0] at h ⊢; exact pickR_err r _ _ _ h
    · rw [pickR_errB h1 h2 h0]; exact ⟨rfl, rfl⟩
theorem pickA_err (h : (pickA g use l ws now u policy depth).2.2 ≠ 0) : (pickA g use l ws now u policy depth).1 = [] ∧ (pickA g use l ws now u policy depth).2.1 = [] := by
  unfold pickA at h ⊢
  split
  · rename_i hm
    rw [if_pos hm] at h
    exact pickR_err _ _ _ _ h
  · exact ⟨rfl, rfl⟩
/-- those that begin so far stay, ahead of all others -/
theorem pickR_more : ∀ (ws : List Wn) (l b k : Tb), (pickR g use now u policy depth l b k ws).2.2 = 0 → ∃ m, (pickR g use now u policy depth l b k ws).1 = b ++ m
  | [], l, b, k, _ => ⟨[], by rw [pickR, List.append_nil]⟩
  | w :: r, l, b, k, h => by
    rcases pick_ways g use l k w now u policy depth with h1 | ⟨h1, h2, hp | ⟨hp, hf | ⟨hf, h0 | h0⟩⟩⟩ | ⟨h1, h2, h0 | h0⟩
    · rw [pickR_pass h1] at h ⊢; exact pickR_more r _ _ _ h
    · rw [pickR_stop h1 h2 hp]; exact ⟨[], (List.append_nil _).symm⟩
    · rw [pickR_full h1 h2 hp hf] at h ⊢; exact pickR_more r _ _ _ h
    · rw [pickR_keep h1 h2 hp hf h0] at h ⊢; exact pickR_more r _ _ _ h
    · rw [pickR_errK h1 h2 hp hf h0] at h; exact absurd h h0
    · rw [pickR_beg h1 h2 h0] at h ⊢
      obtain ⟨m, hm⟩ := pickR_more r _ _ _ h
      exact ⟨heldW g use l w now u :: m, by rw [hm, List.append_assoc]; rfl⟩
    · rw [pickR_errB h1 h2 h0] at h; exact absurd h h0
/-- by Fcfs, and by another policy: an error is theirs, too; who begins by Fcfs begins ahead of all others -/
theorem pickR_fcfs : ∀ (ws : List Wn) (l b : Tb) (d d' : Int), ((pickR g use now u 1 d l b [] ws).2.2 ≠ 0 → (pickR g use now u policy d' l b [] ws).2.2 = (pickR g use now u 1 d l b [] ws).2.2) ∧
    ((pickR g use now u 1 d l b [] ws).2.2 = 0 → (pickR g use now u policy d' l b [] ws).2.2 = 0 → ∃ m, (pickR g use now u policy d' l b [] ws).1 = (pickR g use now u 1 d l b [] ws).1 ++ m)
  | [], l, b, d, d' => ⟨fun h => absurd rfl h, fun _ _ => ⟨[], by rw [pickR, pickR, List.append_nil]⟩⟩
  | w :: r, l, b, d, d' => by
    rcases pick_ways g use l [] w now u 1 d with h1 | ⟨h1, h2, hp | ⟨hp, _⟩⟩ | ⟨h1, h2, h0 | h0⟩
    · rw [pickR_pass h1, pickR_pass h1]; exact pickR_fcfs r _ _ _ _
    · rw [pickR_stop (policy := 1) h1 h2 rfl]
      exact ⟨fun h => absurd rfl h, fun _ h => pickR_more _ _ _ _ h⟩
    · exact absurd rfl hp
    · rw [pickR_beg h1 h2 h0, pickR_beg h1 h2 h0]; exact pickR_fcfs r _ _ _ _
    · rw [pickR_errB h1 h2 h0, pickR_errB h1 h2 h0]
      exact ⟨fun _ => rfl, fun h => absurd h h0⟩

/-! what a pick leaves: a table that is right, of what was there, who begins and who is kept -/
theorem RightT.clash {a b : Hd} (hl : RightT l) (ha : a ∈ l) (hb : b ∈ l) (h : a.id ≠ b.id) : clashH a b = false := by
  have := hl.row
  clear hl
  induction l with
  | nil => cases ha
  | cons z r ih =>
    rw [List.pairwise_cons] at this
    rcases List.mem_cons.1 ha with e1 | e1
    · rcases List.mem_cons.1 hb with e2 | e2
      · rw [e1, e2] at h; exact absurd rfl h
      · rw [e1]; exact (this.1 b e2).2
    · rcases List.mem_cons.1 hb with e2 | e2
      · rw [e2, clash_comm]; exact (this.1 a e1).2
      · exact ih e1 e2 this.2
/-- what is left out of a right table can be added to a part of it -/
theorem sub_add (ht : RightT tab) (hl : RightT l) (hs : ∀ x ∈ l, x ∈ tab) (hh : h ∈ tab) (hn : ∀ x ∈ l, x.id ≠ h.id) (hr : l.length < 256) : MayAdd l h :=
  ⟨hl, ht.may h hh, hn, hr, fun x hx => ht.clash (hs x hx) hh (hn x hx)⟩
theorem busy_sub (ht : RightT tab) (hl : RightT l) (hs : ∀ x ∈ l, x ∈ tab) (hh : h ∈ tab) (hn : ∀ x ∈ l, x.id ≠ h.id) : apartB h.things (busyT l h.frm h.to) = true :=
  apart_turn (busy_right _ _) (ht.may h hh).2.1 ((busy_apart (rightT_is.2 hl) (ht.may h hh)).1 fun x hx => ht.clash (hs x hx) hh (hn x hx))
abbrev Ids (l : Tb) : Prop := l.Pairwise fun x y => x.id ≠ y.id
theorem allT_is (ht : RightT tab) : ∀ (more l : Tb), RightT l → (∀ x ∈ l, x ∈ tab) → (∀ y ∈ more, y ∈ tab) → Ids more → (∀ x ∈ l, ∀ y ∈ more, x.id ≠ y.id) → l.length + more.length ≤ 255 →
    RightT (allT l more) ∧ (∀ x, x ∈ allT l more ↔ x ∈ l ∨ x ∈ more) ∧ (allT l more).length = l.length + more.length
  | [], l, hl, _, _, _, _, _ => ⟨hl, fun x => ⟨.inl, fun h => h.elim id fun h => (by cases h)⟩, rfl⟩
  | y :: r, l, hl, hs, hm, hi, hx, hlen => by
    have hi' := List.pairwise_cons.1 hi
    rw [List.length_cons] at hlen
    have ha := sub_add ht hl hs (hm y (List.mem_cons_self ..)) (fun x h1 => hx x h1 y (List.mem_cons_self ..)) (by omega)
    have e : allT l (y :: r) = allT (insT l y) r := by
      unfold allT
      rw [List.foldl_cons, add_yes ha]
    have hlen2 := ins_len ha.new
    rw [e]
    have ih := allT_is ht r (insT l y) ha.right' (fun x h1 => by
      rcases ha.mem.1 h1 with h2 | h2
      · exact hs x h2
      · rw [h2]; exact hm y (List.mem_cons_self ..)) (fun x h1 => hm x (List.mem_cons_of_mem _ h1)) hi'.2 (fun x h1 z h2 => by
      rcases ha.mem.1 h1 with h3 | h3
      · exact hx x h3 z (List.mem_cons_of_mem _ h2)
      · rw [h3]; exact hi'.1 z h2) (by omega)
    refine ⟨ih.1, fun x => ?_, by rw [ih.2.2, hlen2, List.length_cons]; omega⟩
    rw [ih.2.1, ha.mem, List.mem_cons]
    constructor
    · rintro ((h1 | h1) | h1)
      · exact .inl h1
      · exact .inr (.inl h1)
      · exact .inr (.inr h1)
    · rintro (h1 | h1 | h1)
      · exact .inl (.inl h1)
      · exact .inl (.inr h1)
      · exact .inr h1
/-- one that is new in a pick -/
structure NewP (g : Gr) (use : List Int) (ws : List Wn) (u : Int) (h : Hd) : Prop where
  one : ∃ i, i < ws.length ∧ (ws.getD i wn0).id = h.id ∧ endsS (ws.getD i wn0).spec h.frm = h.to
  part : partB h.things use = true
  over : h.to ≤ u
  few : h.things.length ≤ g.length
def LimP (policy depth : Int) (k : Tb) : Prop := (policy = 1 → k = []) ∧ (policy = 2 → k.length ≤ 1) ∧ (policy = 3 → (k.length : Int) ≤ depth)
structure PickInv (g : Gr) (use : List Int) (ws : List Wn) (now u policy depth : Int) (l0 tab b k : Tb) : Prop where
  right : RightT tab
  old : ∀ x ∈ l0, x ∈ tab
  inb : ∀ x ∈ b, x ∈ tab
  ink : ∀ x ∈ k, x ∈ tab
  len : tab.length = l0.length + b.length + k.length
  idb : Ids b
  idk : Ids k
  idbk : ∀ x ∈ b, ∀ y ∈ k, x.id ≠ y.id
  id0b : ∀ x ∈ l0, ∀ y ∈ b, x.id ≠ y.id
  id0k : ∀ x ∈ l0, ∀ y ∈ k, x.id ≠ y.id
  begs : ∀ y ∈ b, y.frm = now ∧ NewP g use ws u y
  keps : ∀ y ∈ k, now < y.frm ∧ NewP g use ws u y
  lim : LimP policy depth k
theorem ids_snoc (hb : Ids b) (hn : ∀ x ∈ b, x.id ≠ h.id) : Ids (b ++ [h]) := by
  refine List.pairwise_append.2 ⟨hb, List.pairwise_singleton _ _, fun x hx y hy => ?_⟩
  rw [List.mem_singleton.1 hy]
  exact hn x hx
theorem new_held {i : Nat} (hi : i < ws.length) (hw : ws.getD i wn0 = w) (h1 : firstBS g use l w.spec now u = true) : NewP g use ws u (heldW g use l w now u) := by
  obtain ⟨z, e1, e2, hf⟩ := first_fits h1
  refine ⟨⟨i, hi, by rw [hw]; rfl, by rw [hw]; rfl⟩, ?_, ?_, ?_⟩
  · show partB (firstLS g use l w.spec now u) use = true
    rw [e2]; exact gotS_part hf
  · show endsS w.spec (firstAtS g use l w.spec now u) ≤ u
    rw [e1]; exact hf.2.2.2.1
  · show (firstLS g use l w.spec now u).length ≤ g.length
    rw [e2, gotS_is hf]; exact findL_short
theorem first_ge (h1 : firstBS g use l w.spec now u = true) : now ≤ firstAtS g use l w.spec now u := by
  unfold firstBS at h1
  obtain ⟨z, hz⟩ := Option.isSome_iff_exists.1 h1
  rw [(first_some hz).1]
  exact firstS_from hz
theorem inv_beg {i : Nat} (hI : PickInv g use ws now u policy depth l0 tab b k) (hi : i < ws.length) (hw : ws.getD i wn0 = w) (h1 : firstBS g use tab w.spec now u = true) (h2 : ¬ now < firstAtS g use tab w.spec now u) (h0 : addE tab (heldW g use tab w now u) = 0) :
    PickInv g use ws now u policy depth l0 (addT tab (heldW g use tab w now u)) (b ++ [heldW g use tab w now u]) k := by
  have hm := add_ok.1 h0
  have hnw := new_held hi hw h1
  have hfr : (heldW g use tab w now u).frm = now := by
    have := first_ge h1
    show firstAtS g use tab w.spec now u = now
    omega
  rw [add_yes hm]
  generalize heldW g use tab w now u = h at *
  have hlen := ins_len hm.new
  refine ⟨hm.right', fun x hx => hm.mem.2 (.inl (hI.old x hx)), fun x hx => ?_, fun x hx => hm.mem.2 (.inl (hI.ink x hx)), by rw [hlen, hI.len, List.length_append]; simp; omega, ids_snoc hI.idb fun x hx => hm.new x (hI.inb x hx), hI.idk, fun x hx y hy => ?_, fun x hx y hy => ?_, hI.id0k, fun y hy => ?_, hI.keps, hI.lim⟩
  · rcases List.mem_append.1 hx with h3 | h3
    · exact hm.mem.2 (.inl (hI.inb x h3))
    · exact hm.mem.2 (.inr (List.mem_singleton.1 h3))
  · rcases List.mem_append.1 hx with h3 | h3
    · exact hI.idbk x h3 y hy
    · rw [List.mem_singleton.1 h3]; exact fun e => hm.new y (hI.ink y hy) e.symm
  · rcases List.mem_append.1 hy with h3 | h3
    · exact hI.id0b x hx y h3
    · rw [List.mem_singleton.1 h3]; exact hm.new x (hI.old x hx)
  · rcases List.mem_append.1 hy with h3 | h3
    · exact hI.begs y h3
    · rw [List.mem_singleton.1 h3]; exact ⟨hfr, hnw⟩
theorem inv_kep {i : Nat} (hI : PickInv g use ws now u policy depth l0 tab b k) (hi : i < ws.length) (hw : ws.getD i wn0 = w) (h1 : firstBS g use tab w.spec now u = true) (h2 : now < firstAtS g use tab w.spec now u) (hp : ¬ policy = 1) (hf : fullP policy depth k = false) (h0 : addE tab (heldW g use tab w now u) = 0) :
    PickInv g use ws now u policy depth l0 (addT tab (heldW g use tab w now u)) b (k ++ [heldW g use tab w now u]) := by
  have hm := add_ok.1 h0
  have hnw := new_held hi hw h1
  have hfr : now < (heldW g use tab w now u).frm := h2
  rw [add_yes hm]
  generalize heldW g use tab w now u = h at *
  have hlen := ins_len hm.new
  have hlim : LimP policy depth (k ++ [h]) := by
    unfold fullP at hf
    rw [Bool.or_eq_false_iff, decide_eq_false_iff_not, decide_eq_false_iff_not] at hf
    refine ⟨fun e => absurd e hp, fun e => ?_, fun e => ?_⟩
    · have := hI.lim.2.1 e
      have h3 : k.length ≠ 1 := fun h4 => hf.1 ⟨e, h4⟩
      rw [List.length_append, List.length_singleton]; omega
    · have := hI.lim.2.2 e
      have h3 : (k.length : Int) ≠ depth := fun h4 => hf.2 ⟨e, h4⟩
      rw [List.length_append, List.length_singleton]; omega
  refine ⟨hm.right', fun x hx => hm.mem.2 (.inl (hI.old x hx)), fun x hx => hm.mem.2 (.inl (hI.inb x hx)), fun x hx => ?_, by rw [hlen, hI.len, List.length_append]; simp; omega, hI.idb, ids_snoc hI.idk fun x hx => hm.new x (hI.ink x hx), fun x hx y hy => ?_, hI.id0b, fun x hx y hy => ?_, hI.begs, fun y hy => ?_, hlim⟩
  · rcases List.mem_append.1 hx with h3 | h3
    · exact hm.mem.2 (.inl (hI.ink x h3))
    · exact hm.mem.2 (.inr (List.mem_singleton.1 h3))
  · rcases List.mem_append.1 hy with h3 | h3
    · exact hI.idbk x hx y h3
    · rw [List.mem_singleton.1 h3]; exact hm.new x (hI.inb x hx)
  · rcases List.mem_append.1 hy with h3 | h3
    · exact hI.id0k x hx y h3
    · rw [List.mem_singleton.1 h3]; exact hm.new x (hI.old x hx)
  · rcases List.mem_append.1 hy with h3 | h3
    · exact hI.keps y h3
    · rw [List.mem_singleton.1 h3]; exact ⟨hfr, hnw⟩
theorem pickR_inv : ∀ (i : Nat) (tab b k : Tb), i ≤ ws.length → PickInv g use ws now u policy depth l0 tab b k → (pickR g use now u policy depth tab b k (ws.drop i)).2.2 = 0 →
    ∃ tab', PickInv g use ws now u policy depth l0 tab' (pickR g use now u policy depth tab b k (ws.drop i)).1 (pickR g use now u policy depth tab b k (ws.drop i)).2.1 := by
  intro i tab b k hi hI h0
  by_cases hlt : i < ws.length
  · rw [wn_drop hlt] at h0 ⊢
    rcases pick_ways g use tab k (ws.getD i wn0) now u policy depth with h1 | ⟨h1, h2, hp | ⟨hp, hf | ⟨hf, he | he⟩⟩⟩ | ⟨h1, h2, he | he⟩
    · rw [pickR_pass h1] at h0 ⊢; exact pickR_inv (i + 1) _ _ _ (by omega) hI h0
    · rw [pickR_stop h1 h2 hp]; exact ⟨tab, hI⟩
    · rw [pickR_full h1 h2 hp hf] at h0 ⊢; exact pickR_inv (i + 1) _ _ _ (by omega) hI h0
    · rw [pickR_keep h1 h2 hp hf he] at h0 ⊢; exact pickR_inv (i + 1) _ _ _ (by omega) (inv_kep hI hlt rfl h1 h2 hp hf he) h0
    · rw [pickR_errK h1 h2 hp hf he] at h0; exact absurd h0 he
    · rw [pickR_beg h1 h2 he] at h0 ⊢; exact pickR_inv (i + 1) _ _ _ (by omega) (inv_beg hI hlt rfl h1 h2 he) h0
    · rw [pickR_errB h1 h2 he] at h0; exact absurd h0 he
  · rw [List.drop_of_length_le (by omega), pickR]
    exact ⟨tab, hI⟩
termination_by i => ws.length - i
theorem inv_start (hr : RightT l) (hd : 0 ≤ depth) : PickInv g use ws now u policy depth l l [] [] :=
  ⟨hr, fun _ h => h, fun _ h => (by cases h), fun _ h => (by cases h), rfl, List.Pairwise.nil, List.Pairwise.nil, fun _ h => (by cases h), fun _ _ _ h => (by cases h), fun _ _ _ h => (by cases h), fun _ h => (by cases h), fun _ h => (by cases h), fun _ => rfl, fun _ => Nat.zero_le _, fun _ => hd⟩
/-- what a pick that tells no error leaves -/
theorem pickA_inv (h0 : (pickA g use l ws now u policy depth).2.2 = 0) : PickMay policy depth l ∧ ∃ tab, PickInv g use ws now u policy depth l tab (pickA g use l ws now u policy depth).1 (pickA g use l ws now u policy depth).2.1 := by
  by_cases hm : PickMay policy depth l
  · refine ⟨hm, ?_⟩
    unfold pickA at h0 ⊢
    rw [if_pos hm] at h0 ⊢
    have := pickR_inv (ws := ws) (l0 := l) 0 l [] [] (Nat.zero_le _) (inv_start (rightT_is.1 hm.2.2.2) hm.2.1) (by rw [List.drop_zero]; exact h0)
    rwa [List.drop_zero] at this
  · unfold pickA at h0
    rw [if_neg hm] at h0
    cases h0
end

end Go.Proofs.YtchogijdkagiiaaGreatDoor

namespace Go.Proofs.YtchogijdkagiiaaGreatDoor
open Go.RowKit

/-- two lists of holdings and an error's number -/
def PKPost (a b : Tb) (er : Int) (w : World) (e : Ending) (w' : World) : Prop :=
  (∃ A1 c1 A2 c2, e = .returned (.tuple #[.slice A1 a.length c1, .slice A2 b.length c2, .int .i64 er]) ∧ (RT w' w'.heap.size A1 a.length a ∧ (A1 = none → c1 = 0) ∧ a.length ≤ c1) ∧ (RT w' w'.heap.size A2 b.length b ∧ (A2 = none → c2 = 0) ∧ b.length ≤ c2)) ∧ Below w.heap.size w w'
structure PickOk : Prop where
  pick : ∀ (A : Option Addr) (n c : Nat) (g : Gr) (A2 : Option Addr) (n2 c2 : Nat) (use : List Int) (A3 : Option Addr) (n3 c3 : Nat) (l : Tb) (A4 : Option Addr) (n4 c4 : Nat) (ws : List Wn) (t u p d : Int) (w : World), GAsk w A n c g → LAsk w A2 n2 c2 use → TAsk w A3 n3 c3 l → FewT l → WnAsk w A4 n4 c4 ws → n ≤ 60 → n3 + n4 ≤ 60 → I64 t → I64 u → I64 p → I64 d → Glob w → Calls Tryz.prog 12 #[.slice A n c, .slice A2 n2 c2, .slice A3 n3 c3, .slice A4 n4 c4, .int .i64 t, .int .i64 u, .int .i64 p, .int .i64 d] w (PKPost (pickA g use l ws t u p d).1 (pickA g use l ws t u p d).2.1 (pickA g use l ws t u p d).2.2 w)
  later : ∀ (A : Option Addr) (n c : Nat) (g : Gr) (A2 : Option Addr) (n2 c2 : Nat) (use : List Int) (A3 : Option Addr) (n3 c3 : Nat) (l : Tb) (A4 : Option Addr) (n4 c4 : Nat) (l2 : Tb) (s : Sp) (t u : Int) (w : World), GAsk w A n c g → LAsk w A2 n2 c2 use → TAsk w A3 n3 c3 l → FewT l → TAsk w A4 n4 c4 l2 → FewT l2 → SAsk s → I64 t → I64 u → Glob w → Calls Tryz.prog 15 #[.slice A n c, .slice A2 n2 c2, .slice A3 n3 c3, .slice A4 n4 c4, .agg #[.int .i64 s.nodes, .int .i64 s.cores, .int .i64 s.gpus, .string s.tag, .bool s.whole, .int .i64 s.long, .int .i64 s.prio], .int .i64 t, .int .i64 u] w (fun e w' => e = .returned (.bool (laterA g use l l2 s t u)) ∧ Below w.heap.size w w')

section
variable (H : PickOk) {A A2 A3 A4 : Option Addr} {n c n2 c2 n3 c3 n4 c4 : Nat} {g : Gr} {use : List Int} {l l2 : Tb} {s : Sp} {t u p d : Int} {ws : List Wn} {w : World}
include H
theorem p14_pick (hg : GAsk w A n c g) (hu : LAsk w A2 n2 c2 use) (hl : TAsk w A3 n3 c3 l) (hf : FewT l) (hw : WnAsk w A4 n4 c4 ws) (hn : n ≤ 60) (hn3 : n3 + n4 ≤ 60) (ht : I64 t) (hv : I64 u) (hp : I64 p) (hd : I64 d) (hG : Glob w) {a b : Tb} {er : Int} (e : (pickA g use l ws t u p d) = (a, b, er)) : Calls Tryz.prog 12 #[.slice A n c, .slice A2 n2 c2, .slice A3 n3 c3, .slice A4 n4 c4, .int .i64 t, .int .i64 u, .int .i64 p, .int .i64 d] w (PKPost a b er w) := by
  have := H.pick A n c g A2 n2 c2 use A3 n3 c3 l A4 n4 c4 ws t u p d w hg hu hl hf hw hn hn3 ht hv hp hd hG
  rw [e] at this; exact this
theorem p14_later (hg : GAsk w A n c g) (hu : LAsk w A2 n2 c2 use) (hl : TAsk w A3 n3 c3 l) (hf : FewT l) (hl2 : TAsk w A4 n4 c4 l2) (hf2 : FewT l2) (hs : SAsk s) (ht : I64 t) (hv : I64 u) (hG : Glob w) {b : Bool} (e : laterA g use l l2 s t u = b) : Calls Tryz.prog 15 #[.slice A n c, .slice A2 n2 c2, .slice A3 n3 c3, .slice A4 n4 c4, .agg #[.int .i64 s.nodes, .int .i64 s.cores, .int .i64 s.gpus, .string s.tag, .bool s.whole, .int .i64 s.long, .int .i64 s.prio], .int .i64 t, .int .i64 u] w (fun e w' => e = .returned (.bool b) ∧ Below w.heap.size w w') := by
  subst e; exact H.later A n c g A2 n2 c2 use A3 n3 c3 l A4 n4 c4 l2 s t u w hg hu hl hf hl2 hf2 hs ht hv hG
end

end Go.Proofs.YtchogijdkagiiaaGreatDoor
