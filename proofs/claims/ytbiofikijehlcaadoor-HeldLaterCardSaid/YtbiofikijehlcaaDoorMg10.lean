/- The program's Add of layer 10. Written by gen/gen_heldpadd.py. The reference's Over of layer 10. Written by gen/gen_heldref6.py. The program's Over of layer 10. The program's Busy, Get, Drop of layer 10. Written by gen/gen_heldpget.py. Plain facts: what sorting and Compact make of times: the times, rising, none twice. No program's text is walked here. Go's slices.Sort and slices.Compact of times (int64) at this dump, by the library's contract. -/
import Derived.Deep.RegionHeld3
import Derived.Test.YtbiofikijehlcaaDoorMg09
import Derived.Test.YtbiofikijehlcaaDoorMg05
import Derived.Test.YtbiofikijehlcaaDoorMg03
import Derived.Test.YtbiofikijehlcaaDoorMg08
import Derived.Lib.SlicesCompact
import Derived.Test.YtbiofikijehlcaaDoorMg02
import Derived.Shelf.SortM.Plain
import Derived.Shelf.SortM.SortNone
import Derived.Shelf.SlicesE.Compact
import Derived.Test.YtbiofikijehlcaaDoorProg
namespace Go.Proofs.YtbiofikijehlcaaDoor
open Go.RowKit

theorem keep_cellH {w wx : World} {p : Addr} {v : Value} (hl : p.block < w.heap.size) (h : w.cell? p = some v) (hb : Below w.heap.size w wx) : wx.cell? p = some v := (hb.cell hl).trans h
theorem bel_drewH (w : World) : Below w.heap.size w w.drew := bel_drew w 1
/-- a row of holdings of one's own, carried from world to world -/
def ONH (w : World) (v : Value) (l : Tb) (wr : World) : Prop := ON EH 4 37 w v l wr
theorem ONH.next {w wr w1 : World} {v : Value} {l : Tb} (h : ONH w v l wr) (hb : Below wr.heap.size wr w1) : ONH w v l w1 := ON.next eh_steady h hb
theorem onh_post {W w wr : World} {A : Option Addr} {n c : Nat} {l : Tb} {er : Int} (h : ONH W (.slice A n c) l wr) (hb : Below w.heap.size w wr) : TEPost l er w (.returned (.tuple #[.slice A n c, .int .i64 er])) wr := by
  obtain ⟨A', c', e, h1, h2⟩ := ON.form h
  injection e with e1 e2 e3
  subst e1 e2 e3
  exact tepost_mk (ON.reads eh_steady (by omega) h rfl) h1 h2 hb
set_option maxHeartbeats 4000000 in
set_option maxRecDepth 100000 in
/-- into no row at all -/
theorem insertH_none {base vb : Nat} {v0 v1 v2 v3 : Value} {w : World} (hb : base ≤ w.heap.size)
    (hv : w.heap[vb]? = some (.cells #[v0, v1, v2, v3] 37 (0, 0))) (h4 : ∀ u ∈ ([v0, v1, v2, v3] : List Value), u.oneCell' = true) :
    Calls Tryd.prog 26 #[.slice none 0 0, .int .i64 0, .slice (some ⟨vb, 0, none⟩) 1 1] w (InsQ base 1 [v0, v1, v2, v3] (.slice none 0 0) w) := by
  obtain ⟨i0, hi0, hz0, hz1, hz2⟩ : ∃ i, Tryd.prog.info? 37 = some i ∧ i.zero = some (.agg #[.int .i64 0, .slice none 0 0, .int .i64 0, .int .i64 0]) ∧ i.size = 4 ∧ i.bytes = 48 := info_parts held_info
  have HO : Hid (w.ownsRow base 37 4 (.slice none 0 0) 0 []) := Lib.hid (by simpa using World.ownsRow_nil w base 37 4)
  have HV := Lib.hid hv
  have H4 := Lib.hid h4
  have HBB := Lib.hid hb
  clear hv h4 hb
  go_enter Tryd.func26, Tryd.ntmps26
  go_wp2_with (at_builtin; refine wpList_append_lies _ rfl _ _ 22 rfl base 37 i0 (.agg #[.int .i64 0, .slice none 0 0, .int .i64 0, .int .i64 0]) 4 48 Tryd.underlying22 hi0 hz0 hz1 hz2 rfl (by decide) (.slice none 0 0) 0 _ rfl HO.out ⟨vb, 0, none⟩ 1 1 [v0, v1, v2, v3] rfl rfl (World.news_of_block HV.out) H4.out (by omega) (by unfold maxLen; omega) (by omega) HBB.out _ rfl ?_; intro g' cap' w1 hown' hgrow hat _; refine Hid.out ?_)
  all_goals refine Lib.hid ?_
  all_goals have R := Lib.hid hown'
  all_goals have HB : Hid (Below base w w1) := Lib.hid ((Below.refl _ _).grown hgrow HBB.out (fun k hk => by cases hk))
  all_goals have HK : Hid (Keeps w (.slice none 0 0) w1 (.slice (some ⟨g', 0, none⟩) 1 cap')) := Lib.hid ⟨fun b hb hne => hgrow.block b hb (fun e => hne e.symm), hgrow.size, hat.imp (fun e => e.symm) (fun e b hb => by
      have hb' : g' = b := by simpa [Value.ownBlock] using hb
      rw [← hb', e]; exact Nat.le_refl _)⟩
  all_goals clear hown' hgrow hat
  all_goals go_wp2
  all_goals go_ret
  all_goals exact ⟨_, rfl, R.out, HB.out, HK.out⟩
theorem insertH_all (base i vb n : Nat) (A : Option Addr) (c : Nat) (fl : List Value) (v0 v1 v2 v3 : Value) (w : World) (hi : i ≤ n) (hn : n ≤ 3000) (hb : base ≤ w.heap.size) (hown : w.ownsRow base 37 4 (.slice A n c) n fl) (h1c : ∀ u ∈ fl, u.oneCell' = true)
    (hv : w.heap[vb]? = some (.cells #[v0, v1, v2, v3] 37 (0, 0))) (h41 : ∀ u ∈ ([v0, v1, v2, v3] : List Value), u.oneCell' = true) (hne : ∀ g, A = some ⟨g, 0, none⟩ → vb ≠ g) :
    Calls Tryd.prog 26 #[.slice A n c, .int .i64 i, .slice (some ⟨vb, 0, none⟩) 1 1] w (InsQ base (n + 1) (fl.take (i * 4) ++ ([v0, v1, v2, v3] ++ fl.drop (i * 4))) (.slice A n c) w) := by
  rcases Nat.eq_zero_or_pos n with h0 | h0
  · subst h0
    obtain rfl : i = 0 := by omega
    have hfl : fl = [] := List.eq_nil_of_length_eq_zero (by have := hown.1; omega)
    subst hfl
    rcases id hown.2 with ⟨e, _⟩ | ⟨g, cap, cur, e, _⟩
    · injection e with e1 _ e3
      subst e1 e3
      exact insertH_none hb hv h41
    · injection e with e1 _ e3
      subst e1 e3
      exact insertH_end (fl := []) (by omega) hown hv h41
  · exact insertH_any base i vb n A c fl v0 v1 v2 v3 w h0 hi hn hown h1c hv h41 hne
theorem four_one (h : Hd) (A : Option Addr) (m c : Nat) : ∀ u ∈ ([.int .i64 h.id, .slice A m c, .int .i64 h.frm, .int .i64 h.to] : List Value), u.oneCell' = true := by
  intro u hu
  simp at hu
  rcases hu with rfl | rfl | rfl | rfl <;> rfl
/-- a holding more in a table of one's own -/
theorem insertH_on {W wr : World} {A : Option Addr} {n c K : Nat} {l : Tb} {h : Hd} {A5 : Option Addr} {m c5 : Nat} (hO : ONH W (.slice A n c) l wr) (hn : n ≤ 3000) (hln : l.length = n) (hK : K ≤ n) (hh : EH wr (fun b => b < wr.heap.size ∧ (Value.slice A n c).ownBlock ≠ some b) h [.int .i64 h.id, .slice A5 m c5, .int .i64 h.frm, .int .i64 h.to]) :
    Calls Tryd.prog 26 #[.slice A n c, .int .i64 K, .slice (some ⟨wr.heap.size, 0, none⟩) 1 1] (wr.alloc (.cells #[.int .i64 h.id, .slice A5 m c5, .int .i64 h.frm, .int .i64 h.to] 37)) fun e w' => ∃ v', e = .returned v' ∧ ONH W v' (l.take K ++ h :: l.drop K) w' := by
  have hba : Below wr.heap.size wr (wr.alloc (.cells #[.int .i64 h.id, .slice A5 m c5, .int .i64 h.frm, .int .i64 h.to] 37)) := (Below.refl _ _).alloc (Nat.le_refl _) _
  have hO1 := hO.next hba
  obtain ⟨fl, f1, f2, f3⟩ := id hO1
  have hfl := f1.1
  have hWs : W.heap.size ≤ wr.heap.size := (ON.below hO).size
  rw [hln] at f1
  refine (insertH_all W.heap.size K wr.heap.size n A c fl _ _ _ _ _ hK hn (by simp; omega) f1 (flat_one hfl f3) (heap_alloc_new wr _) (four_one h A5 m c5) (fun g e => ?_)).mono ?_
  · subst e
    obtain ⟨_, h1, _⟩ := id hO
    have := (h1.lt g rfl).2
    omega
  · rintro e w7 ⟨v', rfl, h1, h2, h3⟩
    refine ⟨v', rfl, ins_on f2 h1 h2 h3 (by simp [hln]; omega) (ins_cells (ok := fun b => b < (wr.alloc (.cells #[.int .i64 h.id, .slice A5 m c5, .int .i64 h.frm, .int .i64 h.to] 37)).heap.size ∧ (Value.slice A n c).ownBlock ≠ some b) hfl (by omega) f3 (eh_steady.keep hh (fun b hb => hba.block b hb.1) (fun b hb => ⟨Nat.lt_of_lt_of_le hb.1 hba.size, hb.2⟩)))⟩
theorem busyT_len (l : Tb) (a b : Int) : (busyT l a b).length ≤ 256 := by
  unfold busyT
  split
  · exact length_pickL _
  · exact Nat.zero_le _
theorem apart_comm (a b : List Int) : apartB a b = apartB b a := by
  unfold apartB
  rw [Bool.eq_iff_iff]
  simp only [Bool.and_eq_true, List.all_eq_true, Bool.not_eq_true', ← Bool.not_eq_true, List.contains_iff_mem]
  exact ⟨fun ⟨⟨h1, h2⟩, h3⟩ => ⟨⟨h2, h1⟩, fun n hn hm => h3 n hm hn⟩, fun ⟨⟨h1, h2⟩, h3⟩ => ⟨⟨h2, h1⟩, fun n hn hm => h3 n hm hn⟩⟩

set_option maxRecDepth 100000 in
set_option maxHeartbeats 8000000 in
theorem heldAdd_1 (A : Option Addr) (n c : Nat) (l : Tb) (A2 : Option Addr) (m c2 : Nat) (h : Hd) (w : World) (hl : TAsk w A n c l) (hf : FewT l) (hh : HAsk w A2 m c2 h) (_ : m ≤ 100) (h1 : rightT l = false) :
    Calls Tryd.prog 12 #[.slice A n c, .agg #[.int .i64 h.id, .slice A2 m c2, .int .i64 h.frm, .int .i64 h.to]] w (TEPost l 1 w) := by
  obtain ⟨W, hW⟩ : ∃ W, W = w.alloc (hO h A2 m c2) := ⟨_, rfl⟩
  have BX : Hid (BoxH W w.heap.size h A2 m c2) := Lib.hid (by rw [hW]; exact boxH_new w h A2 m c2)
  have hb0 : Below w.heap.size w W := by rw [hW]; exact (Below.refl _ _).alloc (Nat.le_refl _) _
  have HB := Lib.hid hb0
  have HB0 := Lib.hid hb0
  have HT := Lib.hid (hl.next hb0)
  have HH := Lib.hid (hh.next hb0)
  have HF := Lib.hid hf
  have HLN := Lib.hid hl.reads.len
  have hn100 : n ≤ 100 := by rw [← hl.reads.len]; exact hf.1
  have R1 := Lib.hid h1
  clear h1
  unfold hO at hW
  clear hb0 hl hh hf
  have q0 := BX.out.c0
  have q1 := BX.out.c1
  have q2 := BX.out.c2
  have q3 := BX.out.c3
  go_enter Tryd.func12, Tryd.ntmps12
  go_wp2_with fail
  rw [← hW]
  refine (heldSame_any A n c l W HT.out.reads HT.out.nil HF.out).mono ?_
  rintro e w1 ⟨v, rfl, hon⟩
  have hb := hon.below
  obtain ⟨A1, c1, rfl, hz1, hz2⟩ := hon.form
  rw [HLN.out] at hon ⊢
  clear hz1 hz2
  have HBq := Lib.hid (HB.out.trans (hb.mono HB.out.size))
  clear HB
  have HB := HBq
  clear HBq
  have HTq := Lib.hid (HT.out.next hb)
  clear HT
  have HT := HTq
  clear HTq
  have HHq := Lib.hid (HH.out.next hb)
  clear HH
  have HH := HHq
  clear HHq
  have BXq := Lib.hid (BX.out.next hb)
  clear BX
  have BX := BXq
  clear BXq
  clear hb
  have HO := Lib.hid (show ONH W _ l w1 from hon)
  clear hon
  clear hW
  clear q0 q1 q2 q3
  have q0 := BX.out.c0
  have q1 := BX.out.c1
  have q2 := BX.out.c2
  have q3 := BX.out.c3
  go_wp2_with fail
  refine (heldRight_b HT.out.reads HT.out.nil HF.out R1.out).mono ?_
  rintro e w2 ⟨rfl, hb⟩
  have HBq := Lib.hid (HB.out.trans (hb.mono HB.out.size))
  clear HB
  have HB := HBq
  clear HBq
  have HTq := Lib.hid (HT.out.next hb)
  clear HT
  have HT := HTq
  clear HTq
  have HHq := Lib.hid (HH.out.next hb)
  clear HH
  have HH := HHq
  clear HHq
  have BXq := Lib.hid (BX.out.next hb)
  clear BX
  have BX := BXq
  clear BXq
  have HOq := Lib.hid (HO.out.next hb)
  clear HO
  have HO := HOq
  clear HOq
  clear hb
  clear q0 q1 q2 q3
  have q0 := BX.out.c0
  have q1 := BX.out.c1
  have q2 := BX.out.c2
  have q3 := BX.out.c3
  go_wp2
  go_ret2
  exact onh_post HO.out HB.out

set_option maxRecDepth 100000 in
set_option maxHeartbeats 8000000 in
theorem heldAdd_2 (A : Option Addr) (n c : Nat) (l : Tb) (A2 : Option Addr) (m c2 : Nat) (h : Hd) (w : World) (hl : TAsk w A n c l) (hf : FewT l) (hh : HAsk w A2 m c2 h) (_ : m ≤ 100) (h1 : rightT l = true) (h2 : mayH h = false) :
    Calls Tryd.prog 12 #[.slice A n c, .agg #[.int .i64 h.id, .slice A2 m c2, .int .i64 h.frm, .int .i64 h.to]] w (TEPost l 1 w) := by
  obtain ⟨W, hW⟩ : ∃ W, W = w.alloc (hO h A2 m c2) := ⟨_, rfl⟩
  have BX : Hid (BoxH W w.heap.size h A2 m c2) := Lib.hid (by rw [hW]; exact boxH_new w h A2 m c2)
  have hb0 : Below w.heap.size w W := by rw [hW]; exact (Below.refl _ _).alloc (Nat.le_refl _) _
  have HB := Lib.hid hb0
  have HB0 := Lib.hid hb0
  have HT := Lib.hid (hl.next hb0)
  have HH := Lib.hid (hh.next hb0)
  have HF := Lib.hid hf
  have HLN := Lib.hid hl.reads.len
  have hn100 : n ≤ 100 := by rw [← hl.reads.len]; exact hf.1
  have R1 := Lib.hid h1
  have M1 := Lib.hid h2
  clear h1 h2
  unfold hO at hW
  clear hb0 hl hh hf
  have q0 := BX.out.c0
  have q1 := BX.out.c1
  have q2 := BX.out.c2
  have q3 := BX.out.c3
  go_enter Tryd.func12, Tryd.ntmps12
  go_wp2_with fail
  rw [← hW]
  refine (heldSame_any A n c l W HT.out.reads HT.out.nil HF.out).mono ?_
  rintro e w1 ⟨v, rfl, hon⟩
  have hb := hon.below
  obtain ⟨A1, c1, rfl, hz1, hz2⟩ := hon.form
  rw [HLN.out] at hon ⊢
  clear hz1 hz2
  have HBq := Lib.hid (HB.out.trans (hb.mono HB.out.size))
  clear HB
  have HB := HBq
  clear HBq
  have HTq := Lib.hid (HT.out.next hb)
  clear HT
  have HT := HTq
  clear HTq
  have HHq := Lib.hid (HH.out.next hb)
  clear HH
  have HH := HHq
  clear HHq
  have BXq := Lib.hid (BX.out.next hb)
  clear BX
  have BX := BXq
  clear BXq
  clear hb
  have HO := Lib.hid (show ONH W _ l w1 from hon)
  clear hon
  clear hW
  clear q0 q1 q2 q3
  have q0 := BX.out.c0
  have q1 := BX.out.c1
  have q2 := BX.out.c2
  have q3 := BX.out.c3
  go_wp2_with fail
  refine (heldRight_b HT.out.reads HT.out.nil HF.out R1.out).mono ?_
  rintro e w2 ⟨rfl, hb⟩
  have HBq := Lib.hid (HB.out.trans (hb.mono HB.out.size))
  clear HB
  have HB := HBq
  clear HBq
  have HTq := Lib.hid (HT.out.next hb)
  clear HT
  have HT := HTq
  clear HTq
  have HHq := Lib.hid (HH.out.next hb)
  clear HH
  have HH := HHq
  clear HHq
  have BXq := Lib.hid (BX.out.next hb)
  clear BX
  have BX := BXq
  clear BXq
  have HOq := Lib.hid (HO.out.next hb)
  clear HO
  have HO := HOq
  clear HOq
  clear hb
  clear q0 q1 q2 q3
  have q0 := BX.out.c0
  have q1 := BX.out.c1
  have q2 := BX.out.c2
  have q3 := BX.out.c3
  go_wp2_with fail
  refine (may_any HH.out M1.out).mono ?_
  rintro e w3 ⟨rfl, hb⟩
  have HBq := Lib.hid (HB.out.trans (hb.mono HB.out.size))
  clear HB
  have HB := HBq
  clear HBq
  have HTq := Lib.hid (HT.out.next hb)
  clear HT
  have HT := HTq
  clear HTq
  have HHq := Lib.hid (HH.out.next hb)
  clear HH
  have HH := HHq
  clear HHq
  have BXq := Lib.hid (BX.out.next hb)
  clear BX
  have BX := BXq
  clear BXq
  have HOq := Lib.hid (HO.out.next hb)
  clear HO
  have HO := HOq
  clear HOq
  clear hb
  clear q0 q1 q2 q3
  have q0 := BX.out.c0
  have q1 := BX.out.c1
  have q2 := BX.out.c2
  have q3 := BX.out.c3
  go_wp2
  go_ret2
  exact onh_post HO.out HB.out

set_option maxRecDepth 100000 in
set_option maxHeartbeats 8000000 in
theorem heldAdd_3 (A : Option Addr) (n c : Nat) (l : Tb) (A2 : Option Addr) (m c2 : Nat) (h : Hd) (w : World) (hl : TAsk w A n c l) (hf : FewT l) (hh : HAsk w A2 m c2 h) (_ : m ≤ 100) (h1 : rightT l = true) (h2 : mayH h = true) (h3 : hasT l h.id = true) :
    Calls Tryd.prog 12 #[.slice A n c, .agg #[.int .i64 h.id, .slice A2 m c2, .int .i64 h.frm, .int .i64 h.to]] w (TEPost l 7 w) := by
  obtain ⟨W, hW⟩ : ∃ W, W = w.alloc (hO h A2 m c2) := ⟨_, rfl⟩
  have BX : Hid (BoxH W w.heap.size h A2 m c2) := Lib.hid (by rw [hW]; exact boxH_new w h A2 m c2)
  have hb0 : Below w.heap.size w W := by rw [hW]; exact (Below.refl _ _).alloc (Nat.le_refl _) _
  have HB := Lib.hid hb0
  have HB0 := Lib.hid hb0
  have HT := Lib.hid (hl.next hb0)
  have HH := Lib.hid (hh.next hb0)
  have HF := Lib.hid hf
  have HLN := Lib.hid hl.reads.len
  have hn100 : n ≤ 100 := by rw [← hl.reads.len]; exact hf.1
  have R1 := Lib.hid h1
  have M1 := Lib.hid h2
  have HHAS := Lib.hid h3
  have HIDS := Lib.hid (rightT_is.1 h1).ids
  clear h1 h2 h3
  unfold hO at hW
  clear hb0 hl hh hf
  have q0 := BX.out.c0
  have q1 := BX.out.c1
  have q2 := BX.out.c2
  have q3 := BX.out.c3
  go_enter Tryd.func12, Tryd.ntmps12
  go_wp2_with fail
  rw [← hW]
  refine (heldSame_any A n c l W HT.out.reads HT.out.nil HF.out).mono ?_
  rintro e w1 ⟨v, rfl, hon⟩
  have hb := hon.below
  obtain ⟨A1, c1, rfl, hz1, hz2⟩ := hon.form
  rw [HLN.out] at hon ⊢
  clear hz1 hz2
  have HBq := Lib.hid (HB.out.trans (hb.mono HB.out.size))
  clear HB
  have HB := HBq
  clear HBq
  have HTq := Lib.hid (HT.out.next hb)
  clear HT
  have HT := HTq
  clear HTq
  have HHq := Lib.hid (HH.out.next hb)
  clear HH
  have HH := HHq
  clear HHq
  have BXq := Lib.hid (BX.out.next hb)
  clear BX
  have BX := BXq
  clear BXq
  clear hb
  have HO := Lib.hid (show ONH W _ l w1 from hon)
  clear hon
  clear hW
  clear q0 q1 q2 q3
  have q0 := BX.out.c0
  have q1 := BX.out.c1
  have q2 := BX.out.c2
  have q3 := BX.out.c3
  go_wp2_with fail
  refine (heldRight_b HT.out.reads HT.out.nil HF.out R1.out).mono ?_
  rintro e w2 ⟨rfl, hb⟩
  have HBq := Lib.hid (HB.out.trans (hb.mono HB.out.size))
  clear HB
  have HB := HBq
  clear HBq
  have HTq := Lib.hid (HT.out.next hb)
  clear HT
  have HT := HTq
  clear HTq
  have HHq := Lib.hid (HH.out.next hb)
  clear HH
  have HH := HHq
  clear HHq
  have BXq := Lib.hid (BX.out.next hb)
  clear BX
  have BX := BXq
  clear BXq
  have HOq := Lib.hid (HO.out.next hb)
  clear HO
  have HO := HOq
  clear HOq
  clear hb
  clear q0 q1 q2 q3
  have q0 := BX.out.c0
  have q1 := BX.out.c1
  have q2 := BX.out.c2
  have q3 := BX.out.c3
  go_wp2_with fail
  refine (may_any HH.out M1.out).mono ?_
  rintro e w3 ⟨rfl, hb⟩
  have HBq := Lib.hid (HB.out.trans (hb.mono HB.out.size))
  clear HB
  have HB := HBq
  clear HBq
  have HTq := Lib.hid (HT.out.next hb)
  clear HT
  have HT := HTq
  clear HTq
  have HHq := Lib.hid (HH.out.next hb)
  clear HH
  have HH := HHq
  clear HHq
  have BXq := Lib.hid (BX.out.next hb)
  clear BX
  have BX := BXq
  clear BXq
  have HOq := Lib.hid (HO.out.next hb)
  clear HO
  have HO := HOq
  clear HOq
  clear hb
  clear q0 q1 q2 q3
  have q0 := BX.out.c0
  have q1 := BX.out.c1
  have q2 := BX.out.c2
  have q3 := BX.out.c3
  go_wp2_with fail
  refine (find_any A n c l h.id _ HT.out.reads (by omega) HIDS.out).mono ?_
  rintro e w4 ⟨⟨K, rfl, hK⟩, hb⟩
  have HK := Lib.hid hK
  have HKN : Hid (K ≤ n) := Lib.hid (by rw [← HLN.out]; exact hK.le)
  rw [here_has HIDS.out hK, HHAS.out]
  clear hK
  have HBq := Lib.hid (HB.out.trans (hb.mono HB.out.size))
  clear HB
  have HB := HBq
  clear HBq
  have HTq := Lib.hid (HT.out.next hb)
  clear HT
  have HT := HTq
  clear HTq
  have HHq := Lib.hid (HH.out.next hb)
  clear HH
  have HH := HHq
  clear HHq
  have BXq := Lib.hid (BX.out.next hb)
  clear BX
  have BX := BXq
  clear BXq
  have HOq := Lib.hid (HO.out.next hb)
  clear HO
  have HO := HOq
  clear HOq
  clear hb
  clear q0 q1 q2 q3
  have q0 := BX.out.c0
  have q1 := BX.out.c1
  have q2 := BX.out.c2
  have q3 := BX.out.c3
  go_wp2
  go_ret2
  exact onh_post HO.out HB.out

set_option maxRecDepth 100000 in
set_option maxHeartbeats 8000000 in
theorem heldAdd_4 (A : Option Addr) (n c : Nat) (l : Tb) (A2 : Option Addr) (m c2 : Nat) (h : Hd) (w : World) (hl : TAsk w A n c l) (hf : FewT l) (hh : HAsk w A2 m c2 h) (hm : m ≤ 100) (h1 : rightT l = true) (h2 : mayH h = true) (h3 : hasT l h.id = false) (h4 : apartB h.things (busyT l h.frm h.to) = false) :
    Calls Tryd.prog 12 #[.slice A n c, .agg #[.int .i64 h.id, .slice A2 m c2, .int .i64 h.frm, .int .i64 h.to]] w (TEPost l 5 w) := by
  obtain ⟨W, hW⟩ : ∃ W, W = w.alloc (hO h A2 m c2) := ⟨_, rfl⟩
  have BX : Hid (BoxH W w.heap.size h A2 m c2) := Lib.hid (by rw [hW]; exact boxH_new w h A2 m c2)
  have hb0 : Below w.heap.size w W := by rw [hW]; exact (Below.refl _ _).alloc (Nat.le_refl _) _
  have HB := Lib.hid hb0
  have HB0 := Lib.hid hb0
  have HT := Lib.hid (hl.next hb0)
  have HH := Lib.hid (hh.next hb0)
  have HF := Lib.hid hf
  have HLN := Lib.hid hl.reads.len
  have hn100 : n ≤ 100 := by rw [← hl.reads.len]; exact hf.1
  have R1 := Lib.hid h1
  have M1 := Lib.hid h2
  have HHAS := Lib.hid h3
  have HIDS := Lib.hid (rightT_is.1 h1).ids
  have HBN : Hid ((busyT l h.frm h.to).length ≤ maxLen) := Lib.hid (by have := busyT_len l h.frm h.to; unfold maxLen; omega)
  have HAP : Hid (apartB h.things (busyT l h.frm h.to) = false) := Lib.hid h4
  have d256 : (n == 256) = false := beq_eq_false_iff_ne.2 (by omega)
  have d256' : ((n : Int) == 256) = false := beq_eq_false_iff_ne.2 (by omega)
  have HMM := Lib.hid hm
  clear h1 h2 h3 h4
  unfold hO at hW
  clear hb0 hl hh hf
  have q0 := BX.out.c0
  have q1 := BX.out.c1
  have q2 := BX.out.c2
  have q3 := BX.out.c3
  go_enter Tryd.func12, Tryd.ntmps12
  go_wp2_with fail
  rw [← hW]
  refine (heldSame_any A n c l W HT.out.reads HT.out.nil HF.out).mono ?_
  rintro e w1 ⟨v, rfl, hon⟩
  have hb := hon.below
  obtain ⟨A1, c1, rfl, hz1, hz2⟩ := hon.form
  rw [HLN.out] at hon ⊢
  clear hz1 hz2
  have HBq := Lib.hid (HB.out.trans (hb.mono HB.out.size))
  clear HB
  have HB := HBq
  clear HBq
  have HTq := Lib.hid (HT.out.next hb)
  clear HT
  have HT := HTq
  clear HTq
  have HHq := Lib.hid (HH.out.next hb)
  clear HH
  have HH := HHq
  clear HHq
  have BXq := Lib.hid (BX.out.next hb)
  clear BX
  have BX := BXq
  clear BXq
  clear hb
  have HO := Lib.hid (show ONH W _ l w1 from hon)
  clear hon
  clear hW
  clear q0 q1 q2 q3
  have q0 := BX.out.c0
  have q1 := BX.out.c1
  have q2 := BX.out.c2
  have q3 := BX.out.c3
  go_wp2_with fail
  refine (heldRight_b HT.out.reads HT.out.nil HF.out R1.out).mono ?_
  rintro e w2 ⟨rfl, hb⟩
  have HBq := Lib.hid (HB.out.trans (hb.mono HB.out.size))
  clear HB
  have HB := HBq
  clear HBq
  have HTq := Lib.hid (HT.out.next hb)
  clear HT
  have HT := HTq
  clear HTq
  have HHq := Lib.hid (HH.out.next hb)
  clear HH
  have HH := HHq
  clear HHq
  have BXq := Lib.hid (BX.out.next hb)
  clear BX
  have BX := BXq
  clear BXq
  have HOq := Lib.hid (HO.out.next hb)
  clear HO
  have HO := HOq
  clear HOq
  clear hb
  clear q0 q1 q2 q3
  have q0 := BX.out.c0
  have q1 := BX.out.c1
  have q2 := BX.out.c2
  have q3 := BX.out.c3
  go_wp2_with fail
  refine (may_any HH.out M1.out).mono ?_
  rintro e w3 ⟨rfl, hb⟩
  have HBq := Lib.hid (HB.out.trans (hb.mono HB.out.size))
  clear HB
  have HB := HBq
  clear HBq
  have HTq := Lib.hid (HT.out.next hb)
  clear HT
  have HT := HTq
  clear HTq
  have HHq := Lib.hid (HH.out.next hb)
  clear HH
  have HH := HHq
  clear HHq
  have BXq := Lib.hid (BX.out.next hb)
  clear BX
  have BX := BXq
  clear BXq
  have HOq := Lib.hid (HO.out.next hb)
  clear HO
  have HO := HOq
  clear HOq
  clear hb
  clear q0 q1 q2 q3
  have q0 := BX.out.c0
  have q1 := BX.out.c1
  have q2 := BX.out.c2
  have q3 := BX.out.c3
  go_wp2_with fail
  refine (find_any A n c l h.id _ HT.out.reads (by omega) HIDS.out).mono ?_
  rintro e w4 ⟨⟨K, rfl, hK⟩, hb⟩
  have HK := Lib.hid hK
  have HKN : Hid (K ≤ n) := Lib.hid (by rw [← HLN.out]; exact hK.le)
  rw [here_has HIDS.out hK, HHAS.out]
  clear hK
  have HBq := Lib.hid (HB.out.trans (hb.mono HB.out.size))
  clear HB
  have HB := HBq
  clear HBq
  have HTq := Lib.hid (HT.out.next hb)
  clear HT
  have HT := HTq
  clear HTq
  have HHq := Lib.hid (HH.out.next hb)
  clear HH
  have HH := HHq
  clear HHq
  have BXq := Lib.hid (BX.out.next hb)
  clear BX
  have BX := BXq
  clear BXq
  have HOq := Lib.hid (HO.out.next hb)
  clear HO
  have HO := HOq
  clear HOq
  clear hb
  clear q0 q1 q2 q3
  have q0 := BX.out.c0
  have q1 := BX.out.c1
  have q2 := BX.out.c2
  have q3 := BX.out.c3
  go_wp2
  have HKEEP : Hid (∀ wx, Below w4.drew.heap.size w4.drew wx → wx.cell? ⟨w.heap.size, 1, none⟩ = some (.slice A2 m c2) ∧ wx.cell? ⟨w.heap.size, 2, none⟩ = some (.int .i64 h.frm) ∧ wx.cell? ⟨w.heap.size, 3, none⟩ = some (.int .i64 h.to)) := Lib.hid (fun wx hz' => by
    have hz := (bel_drewH w4).trans (hz'.mono (bel_drewH w4).size)
    exact ⟨keep_cellH BX.out.lt BX.out.c1 hz, keep_cellH BX.out.lt BX.out.c2 hz, keep_cellH BX.out.lt BX.out.c3 hz⟩)
  have hd := bel_drewH w4
  have HBq := Lib.hid (HB.out.trans (hd.mono HB.out.size))
  clear HB
  have HB := HBq
  clear HBq
  have HTq := Lib.hid (HT.out.next hd)
  clear HT
  have HT := HTq
  clear HTq
  have HHq := Lib.hid (HH.out.next hd)
  clear HH
  have HH := HHq
  clear HHq
  have BXq := Lib.hid (BX.out.next hd)
  clear BX
  have BX := BXq
  clear BXq
  have HOq := Lib.hid (HO.out.next hd)
  clear HO
  have HO := HOq
  clear HOq
  clear hd
  have HY := Lib.hid (Below.refl w4.drew.heap.size w4.drew)
  go_region_held3 (fun w' => w'.cell? ⟨w.heap.size, 1, none⟩ = some (.slice A2 m c2) ∧ w'.cell? ⟨w.heap.size, 2, none⟩ = some (.int .i64 h.frm) ∧ w'.cell? ⟨w.heap.size, 3, none⟩ = some (.int .i64 h.to))
    (first | exact HKEEP.out _ (Below.refl _ _) | exact HKEEP.out _ HY.out | go_keep | fail)
    (first | (go_at_call 20; (with_reducible refine (busy_any A n c l h.frm h.to w4.drew HT.out.reads HF.out R1.out).mono ?_); rintro e w5 ⟨⟨Ab, cb, rfl, hrb, _, _⟩, hb⟩; have HY := Lib.hid (HY.out.trans (hb.mono HY.out.size)); have HB := Lib.hid (HB.out.trans (hb.mono HB.out.size)); have HT := Lib.hid (HT.out.next hb); have HH := Lib.hid (HH.out.next hb); have BX := Lib.hid (BX.out.next hb); have HO := Lib.hid (HO.out.next hb); have HBS := Lib.hid hrb; clear hb) | (go_at_call 25; (with_reducible refine (s_apart HH.out.reads HBS.out HH.out.few HBN.out HAP.out).mono ?_); rintro e w6 ⟨rfl, hb⟩; have HY := Lib.hid (HY.out.trans (hb.mono HY.out.size)); have HB := Lib.hid (HB.out.trans (hb.mono HB.out.size)); have HT := Lib.hid (HT.out.next hb); have HH := Lib.hid (HH.out.next hb); have BX := Lib.hid (BX.out.next hb); have HO := Lib.hid (HO.out.next hb); have HBS := Lib.hid (HBS.out.next hb); clear hb) | fail)
  clear HKEEP HY
  clear q0 q1 q2 q3
  go_wp2
  go_ret2
  exact onh_post HO.out HB.out

set_option maxRecDepth 100000 in
set_option maxHeartbeats 8000000 in
theorem heldAdd_5 (A : Option Addr) (n c : Nat) (l : Tb) (A2 : Option Addr) (m c2 : Nat) (h : Hd) (w : World) (hl : TAsk w A n c l) (hf : FewT l) (hh : HAsk w A2 m c2 h) (hm : m ≤ 100) (h1 : rightT l = true) (h2 : mayH h = true) (h3 : hasT l h.id = false) (h4 : apartB h.things (busyT l h.frm h.to) = true) :
    Calls Tryd.prog 12 #[.slice A n c, .agg #[.int .i64 h.id, .slice A2 m c2, .int .i64 h.frm, .int .i64 h.to]] w (TEPost (insT l h) 0 w) := by
  obtain ⟨W, hW⟩ : ∃ W, W = w.alloc (hO h A2 m c2) := ⟨_, rfl⟩
  have BX : Hid (BoxH W w.heap.size h A2 m c2) := Lib.hid (by rw [hW]; exact boxH_new w h A2 m c2)
  have hb0 : Below w.heap.size w W := by rw [hW]; exact (Below.refl _ _).alloc (Nat.le_refl _) _
  have HB := Lib.hid hb0
  have HB0 := Lib.hid hb0
  have HT := Lib.hid (hl.next hb0)
  have HH := Lib.hid (hh.next hb0)
  have HF := Lib.hid hf
  have HLN := Lib.hid hl.reads.len
  have hn100 : n ≤ 100 := by rw [← hl.reads.len]; exact hf.1
  have R1 := Lib.hid h1
  have M1 := Lib.hid h2
  have HHAS := Lib.hid h3
  have HIDS := Lib.hid (rightT_is.1 h1).ids
  have HBN : Hid ((busyT l h.frm h.to).length ≤ maxLen) := Lib.hid (by have := busyT_len l h.frm h.to; unfold maxLen; omega)
  have HAP : Hid (apartB h.things (busyT l h.frm h.to) = true) := Lib.hid h4
  have d256 : (n == 256) = false := beq_eq_false_iff_ne.2 (by omega)
  have d256' : ((n : Int) == 256) = false := beq_eq_false_iff_ne.2 (by omega)
  have HMM := Lib.hid hm
  clear h1 h2 h3 h4
  unfold hO at hW
  clear hb0 hl hh hf
  have q0 := BX.out.c0
  have q1 := BX.out.c1
  have q2 := BX.out.c2
  have q3 := BX.out.c3
  go_enter Tryd.func12, Tryd.ntmps12
  go_wp2_with fail
  rw [← hW]
  refine (heldSame_any A n c l W HT.out.reads HT.out.nil HF.out).mono ?_
  rintro e w1 ⟨v, rfl, hon⟩
  have hb := hon.below
  obtain ⟨A1, c1, rfl, hz1, hz2⟩ := hon.form
  rw [HLN.out] at hon ⊢
  clear hz1 hz2
  have HBq := Lib.hid (HB.out.trans (hb.mono HB.out.size))
  clear HB
  have HB := HBq
  clear HBq
  have HTq := Lib.hid (HT.out.next hb)
  clear HT
  have HT := HTq
  clear HTq
  have HHq := Lib.hid (HH.out.next hb)
  clear HH
  have HH := HHq
  clear HHq
  have BXq := Lib.hid (BX.out.next hb)
  clear BX
  have BX := BXq
  clear BXq
  clear hb
  have HO := Lib.hid (show ONH W _ l w1 from hon)
  clear hon
  clear hW
  clear q0 q1 q2 q3
  have q0 := BX.out.c0
  have q1 := BX.out.c1
  have q2 := BX.out.c2
  have q3 := BX.out.c3
  go_wp2_with fail
  refine (heldRight_b HT.out.reads HT.out.nil HF.out R1.out).mono ?_
  rintro e w2 ⟨rfl, hb⟩
  have HBq := Lib.hid (HB.out.trans (hb.mono HB.out.size))
  clear HB
  have HB := HBq
  clear HBq
  have HTq := Lib.hid (HT.out.next hb)
  clear HT
  have HT := HTq
  clear HTq
  have HHq := Lib.hid (HH.out.next hb)
  clear HH
  have HH := HHq
  clear HHq
  have BXq := Lib.hid (BX.out.next hb)
  clear BX
  have BX := BXq
  clear BXq
  have HOq := Lib.hid (HO.out.next hb)
  clear HO
  have HO := HOq
  clear HOq
  clear hb
  clear q0 q1 q2 q3
  have q0 := BX.out.c0
  have q1 := BX.out.c1
  have q2 := BX.out.c2
  have q3 := BX.out.c3
  go_wp2_with fail
  refine (may_any HH.out M1.out).mono ?_
  rintro e w3 ⟨rfl, hb⟩
  have HBq := Lib.hid (HB.out.trans (hb.mono HB.out.size))
  clear HB
  have HB := HBq
  clear HBq
  have HTq := Lib.hid (HT.out.next hb)
  clear HT
  have HT := HTq
  clear HTq
  have HHq := Lib.hid (HH.out.next hb)
  clear HH
  have HH := HHq
  clear HHq
  have BXq := Lib.hid (BX.out.next hb)
  clear BX
  have BX := BXq
  clear BXq
  have HOq := Lib.hid (HO.out.next hb)
  clear HO
  have HO := HOq
  clear HOq
  clear hb
  clear q0 q1 q2 q3
  have q0 := BX.out.c0
  have q1 := BX.out.c1
  have q2 := BX.out.c2
  have q3 := BX.out.c3
  go_wp2_with fail
  refine (find_any A n c l h.id _ HT.out.reads (by omega) HIDS.out).mono ?_
  rintro e w4 ⟨⟨K, rfl, hK⟩, hb⟩
  have HK := Lib.hid hK
  have HKN : Hid (K ≤ n) := Lib.hid (by rw [← HLN.out]; exact hK.le)
  rw [here_has HIDS.out hK, HHAS.out]
  clear hK
  have HBq := Lib.hid (HB.out.trans (hb.mono HB.out.size))
  clear HB
  have HB := HBq
  clear HBq
  have HTq := Lib.hid (HT.out.next hb)
  clear HT
  have HT := HTq
  clear HTq
  have HHq := Lib.hid (HH.out.next hb)
  clear HH
  have HH := HHq
  clear HHq
  have BXq := Lib.hid (BX.out.next hb)
  clear BX
  have BX := BXq
  clear BXq
  have HOq := Lib.hid (HO.out.next hb)
  clear HO
  have HO := HOq
  clear HOq
  clear hb
  clear q0 q1 q2 q3
  have q0 := BX.out.c0
  have q1 := BX.out.c1
  have q2 := BX.out.c2
  have q3 := BX.out.c3
  go_wp2
  have HKEEP : Hid (∀ wx, Below w4.drew.heap.size w4.drew wx → wx.cell? ⟨w.heap.size, 1, none⟩ = some (.slice A2 m c2) ∧ wx.cell? ⟨w.heap.size, 2, none⟩ = some (.int .i64 h.frm) ∧ wx.cell? ⟨w.heap.size, 3, none⟩ = some (.int .i64 h.to)) := Lib.hid (fun wx hz' => by
    have hz := (bel_drewH w4).trans (hz'.mono (bel_drewH w4).size)
    exact ⟨keep_cellH BX.out.lt BX.out.c1 hz, keep_cellH BX.out.lt BX.out.c2 hz, keep_cellH BX.out.lt BX.out.c3 hz⟩)
  have hd := bel_drewH w4
  have HBq := Lib.hid (HB.out.trans (hd.mono HB.out.size))
  clear HB
  have HB := HBq
  clear HBq
  have HTq := Lib.hid (HT.out.next hd)
  clear HT
  have HT := HTq
  clear HTq
  have HHq := Lib.hid (HH.out.next hd)
  clear HH
  have HH := HHq
  clear HHq
  have BXq := Lib.hid (BX.out.next hd)
  clear BX
  have BX := BXq
  clear BXq
  have HOq := Lib.hid (HO.out.next hd)
  clear HO
  have HO := HOq
  clear HOq
  clear hd
  have HY := Lib.hid (Below.refl w4.drew.heap.size w4.drew)
  go_region_held3 (fun w' => w'.cell? ⟨w.heap.size, 1, none⟩ = some (.slice A2 m c2) ∧ w'.cell? ⟨w.heap.size, 2, none⟩ = some (.int .i64 h.frm) ∧ w'.cell? ⟨w.heap.size, 3, none⟩ = some (.int .i64 h.to))
    (first | exact HKEEP.out _ (Below.refl _ _) | exact HKEEP.out _ HY.out | go_keep | fail)
    (first | (go_at_call 20; (with_reducible refine (busy_any A n c l h.frm h.to w4.drew HT.out.reads HF.out R1.out).mono ?_); rintro e w5 ⟨⟨Ab, cb, rfl, hrb, _, _⟩, hb⟩; have HY := Lib.hid (HY.out.trans (hb.mono HY.out.size)); have HB := Lib.hid (HB.out.trans (hb.mono HB.out.size)); have HT := Lib.hid (HT.out.next hb); have HH := Lib.hid (HH.out.next hb); have BX := Lib.hid (BX.out.next hb); have HO := Lib.hid (HO.out.next hb); have HBS := Lib.hid hrb; clear hb) | (go_at_call 25; (with_reducible refine (s_apart HH.out.reads HBS.out HH.out.few HBN.out HAP.out).mono ?_); rintro e w6 ⟨rfl, hb⟩; have HY := Lib.hid (HY.out.trans (hb.mono HY.out.size)); have HB := Lib.hid (HB.out.trans (hb.mono HB.out.size)); have HT := Lib.hid (HT.out.next hb); have HH := Lib.hid (HH.out.next hb); have BX := Lib.hid (BX.out.next hb); have HO := Lib.hid (HO.out.next hb); have HBS := Lib.hid (HBS.out.next hb); clear hb) | fail)
  clear HKEEP HY
  clear q0 q1 q2 q3
  have q0 := BX.out.c0
  have q1 := BX.out.c1
  have q2 := BX.out.c2
  have q3 := BX.out.c3
  go_wp2_with fail
  refine (own_any A2 m c2 h _ HH.out (by omega)).mono ?_
  rintro e w7 ⟨⟨A5, c5, rfl, hx5, he5⟩, hb⟩
  have hlt5 : ∀ b, (Value.slice A1 n c1).ownBlock = some b → b < _ := fun b hb => (let ⟨_, h1, _⟩ := HO.out; h1.lt b hb).2
  have HE5 : Hid (EH w7 (fun b => b < w7.heap.size ∧ (Value.slice A1 n c1).ownBlock ≠ some b) h _) := Lib.hid (eh_steady.keep he5 (fun _ _ => rfl) (fun b hb => ⟨hb.2, fun e => by have h1 := hlt5 b e; have h2 := hb.1; omega⟩))
  clear hlt5 hx5 he5
  have HBq := Lib.hid (HB.out.trans (hb.mono HB.out.size))
  clear HB
  have HB := HBq
  clear HBq
  have HTq := Lib.hid (HT.out.next hb)
  clear HT
  have HT := HTq
  clear HTq
  have HHq := Lib.hid (HH.out.next hb)
  clear HH
  have HH := HHq
  clear HHq
  have BXq := Lib.hid (BX.out.next hb)
  clear BX
  have BX := BXq
  clear BXq
  have HOq := Lib.hid (HO.out.next hb)
  clear HO
  have HO := HOq
  clear HOq
  have HBSq := Lib.hid (HBS.out.next hb)
  clear HBS
  have HBS := HBSq
  clear HBSq
  clear hb
  clear q0 q1 q2 q3
  have HINS : Hid (l.take K ++ h :: l.drop K = insT l h) := Lib.hid (ins_at HK.out (has_no.1 HHAS.out)).symm
  go_wp2_with fail
  refine (insertH_on HO.out (by omega) HLN.out HKN.out HE5.out).mono ?_
  rintro e w8 ⟨v', rfl, hon⟩
  rw [HINS.out] at hon
  obtain ⟨A7, c7, rfl, hz1, hz2⟩ := ON.form hon
  have HON := Lib.hid hon
  have HBF := Lib.hid (HB0.out.trans ((ON.below hon).mono HB0.out.size))
  clear hon hz1 hz2
  go_wp2
  go_ret2
  exact onh_post HON.out HBF.out

theorem heldAdd_any (A : Option Addr) (n c : Nat) (l : Tb) (A2 : Option Addr) (m c2 : Nat) (h : Hd) (w : World) (hl : TAsk w A n c l) (hf : FewT l) (hh : HAsk w A2 m c2 h) (hm : m ≤ 100) : Calls Tryd.prog 12 #[.slice A n c, .agg #[.int .i64 h.id, .slice A2 m c2, .int .i64 h.frm, .int .i64 h.to]] w (TEPost (addT l h) (addE l h) w) := by
  unfold addT
  cases h1 : rightT l with
  | false =>
    have e : addE l h = 1 := by unfold addE; rw [h1]; rfl
    rw [e, if_neg (by omega)]
    exact heldAdd_1 A n c l A2 m c2 h w hl hf hh hm h1
  | true =>
    cases h2 : mayH h with
    | false =>
      have e : addE l h = 1 := by unfold addE; rw [h1, h2]; rfl
      rw [e, if_neg (by omega)]
      exact heldAdd_2 A n c l A2 m c2 h w hl hf hh hm h1 h2
    | true =>
      have hmay : MayH h := of_decide_eq_true h2
      cases h3 : hasT l h.id with
      | true =>
        have e : addE l h = 7 := by unfold addE; rw [h1, h2, if_neg (by simp), if_pos h3]
        rw [e, if_neg (by omega)]
        exact heldAdd_3 A n c l A2 m c2 h w hl hf hh hm h1 h2 h3
      | false =>
        have hn : ¬ 256 ≤ l.length := by have := hf.1; omega
        cases h4 : apartB h.things (busyT l h.frm h.to) with
        | false =>
          have hc : (l.any fun x => clashH x h) = true := by
            refine Classical.byContradiction fun hc => ?_
            rw [Bool.not_eq_true, List.any_eq_false] at hc
            have := (busy_apart h1 hmay).1 (fun x hx => by simpa using hc x hx)
            rw [apart_comm, h4] at this
            cases this
          have e : addE l h = 5 := by unfold addE; rw [h1, h2, if_neg (by simp), if_neg (by rw [h3]; simp), if_pos (.inr hc)]
          rw [e, if_neg (by omega)]
          exact heldAdd_4 A n c l A2 m c2 h w hl hf hh hm h1 h2 h3 h4
        | true =>
          have hc := (busy_apart h1 hmay).2 (by rw [apart_comm]; exact h4)
          have e : addE l h = 0 := add_ok.2 ⟨rightT_is.1 h1, hmay, has_no.1 h3, by omega, hc⟩
          rw [e, if_pos rfl]
          exact heldAdd_5 A n c l A2 m c2 h w hl hf hh hm h1 h2 h3 h4

end Go.Proofs.YtbiofikijehlcaaDoor

namespace Go.Proofs.YtbiofikijehlcaaDoor
open Go.RowKit

theorem filter_take_yes {l : Tb} {p : Hd → Bool} {k : Nat} (hk : k < l.length) (h : p (l.getD k hd0) = true) : (l.take (k + 1)).filter p = (l.take k).filter p ++ [l.getD k hd0] := by
  rw [List.take_succ_eq_append_getElem hk, List.filter_append, getD_hd hk]
  rw [getD_hd hk] at h
  simp [h]
theorem filter_take_no {l : Tb} {p : Hd → Bool} {k : Nat} (hk : k < l.length) (h : p (l.getD k hd0) = false) : (l.take (k + 1)).filter p = (l.take k).filter p := by
  rw [List.take_succ_eq_append_getElem hk, List.filter_append]
  rw [getD_hd hk] at h
  simp [h]
theorem ob_table {w wr : World} {v : Value} {xs : Tb} (h : OB EH 4 37 w v xs wr) : ∃ A c, v = .slice A xs.length c ∧ RT wr wr.heap.size A xs.length xs ∧ (A = none → c = 0) ∧ xs.length ≤ c := by
  have ho := h.on eh_steady
  obtain ⟨A, c, rfl, h1, h2⟩ := ho.form
  exact ⟨A, c, rfl, ho.reads eh_steady (by omega) rfl, h1, h2⟩
/-- two rows of holdings -/
structure Two (w : World) (v : Value) (xs : Tb) (v2 : Value) (ys : Tb) (wr : World) : Prop where
  a : OB EH 4 37 w v xs wr
  b : OB EH 4 37 w v2 ys wr
  ap : Apart2 v v2
theorem Two.next {w wr w1 : World} {v v2 : Value} {xs ys : Tb} (h : Two w v xs v2 ys wr) (hb : Below wr.heap.size wr w1) : Two w v xs v2 ys w1 := ⟨h.a.next eh_steady hb, h.b.next eh_steady hb, h.ap⟩


end Go.Proofs.YtbiofikijehlcaaDoor

namespace Go.Proofs.YtbiofikijehlcaaDoor
open Go.RowKit

set_option maxRecDepth 100000 in
set_option maxHeartbeats 8000000 in
theorem heldOver_no (A : Option Addr) (n c : Nat) (l : Tb) (now : Int) (w : World) (hl : TAsk w A n c l) (hf : FewT l) (hrt : rightT l = false) :
    Calls Tryd.prog 6 #[.slice A n c, .int .i64 now] w (TTPost l [] w) := by
  have HT := Lib.hid hl
  have HF := Lib.hid hf
  have R1 := Lib.hid hrt
  clear hl hf hrt
  go_enter Tryd.func6, Tryd.ntmps6
  go_wp2_with fail
  refine (heldRight_b HT.out.reads HT.out.nil HF.out R1.out).mono ?_
  rintro e w1 ⟨rfl, hb1⟩
  have HB1 := Lib.hid hb1
  have HT1 := Lib.hid (HT.out.next hb1)
  clear hb1
  go_wp2_with fail
  refine (heldSame_any A n c l w1 HT1.out.reads HT1.out.nil HF.out).mono ?_
  rintro e w2 ⟨v, rfl, hon⟩
  obtain ⟨A1, c1, rfl, h1, h2⟩ := hon.form
  have HP : Hid (TTPost l [] w (.returned (.tuple #[.slice A1 l.length c1, .slice none 0 0])) w2) := Lib.hid ⟨⟨A1, c1, none, 0, rfl, hon.reads eh_steady (by omega) rfl, RT.nil, ⟨h1, h2⟩, fun _ => rfl, Nat.le_refl _⟩, HB1.out.trans (hon.below.mono HB1.out.size)⟩
  clear hon h1 h2
  go_wp2
  go_ret2
  exact HP.out

set_option maxRecDepth 100000 in
set_option maxHeartbeats 8000000 in
theorem heldOver_yes (A : Option Addr) (n c : Nat) (l : Tb) (now : Int) (w : World) (hl : TAsk w A n c l) (hf : FewT l) (hrt : rightT l = true) :
    Calls Tryd.prog 6 #[.slice A n c, .int .i64 now] w (TTPost (restT l now) (goneT l now) w) := by
  obtain ⟨i0, hi0, hz0, hz1, hz2⟩ : ∃ i, Tryd.prog.info? 37 = some i ∧ i.zero = some (.agg #[.int .i64 0, .slice none 0 0, .int .i64 0, .int .i64 0]) ∧ i.size = 4 ∧ i.bytes = 48 := info_parts held_info
  have HT := Lib.hid hl
  have HF := Lib.hid hf
  have R1 := Lib.hid hrt
  have HL := Lib.hid hl.reads.len
  have hn100 : n ≤ 100 := by rw [← hl.reads.len]; exact hf.1
  have HE1 : Hid (restT l now = l.filter (fun x => decide (now < x.to))) := Lib.hid (by unfold restT; rw [if_pos hrt])
  have HE2 : Hid (goneT l now = l.filter (fun x => decide (x.to ≤ now))) := Lib.hid (by unfold goneT; rw [if_pos hrt])
  rw [HE1.out, HE2.out]
  obtain ⟨ga, hga⟩ : ∃ ga, l.filter (fun x => decide (now < x.to)) = ga := ⟨_, rfl⟩
  obtain ⟨gb, hgb⟩ : ∃ gb, l.filter (fun x => decide (x.to ≤ now)) = gb := ⟨_, rfl⟩
  rw [hga, hgb]
  have HGA := Lib.hid hga
  have HGB := Lib.hid hgb
  clear hl hf hrt hga hgb
  go_enter Tryd.func6, Tryd.ntmps6
  go_wp2_with fail
  refine (heldRight_b HT.out.reads HT.out.nil HF.out R1.out).mono ?_
  rintro e w1 ⟨rfl, hb1⟩
  have HB1 := Lib.hid hb1
  have HT1 := Lib.hid (HT.out.next hb1)
  clear hb1
  go_wp2_with fail
  refine (heldSame_any A n c l w1 HT1.out.reads HT1.out.nil HF.out).mono ?_
  rintro e w2 ⟨v, rfl, hon⟩
  obtain ⟨A1, c1, rfl, h1, h2⟩ := hon.form
  have HB2 := Lib.hid (HB1.out.trans (hon.below.mono HB1.out.size))
  have HS : Hid (RT w2 w2.heap.size A1 n l) := Lib.hid (by have := hon.reads eh_steady (by omega) rfl; rw [HL.out] at this; exact this)
  rw [HL.out]
  clear hon h1 h2
  go_wp2
  go_loopw [6, 7, 18] (fun rv gv kv wr => ∃ k : Nat, k ≤ n ∧ kv = .int .i64 k ∧ Two w2 rv ((l.take k).filter (fun x => decide (now < x.to))) gv ((l.take k).filter (fun x => decide (x.to ≤ now))) wr) (fun _ _ kv _ => n - (intOf kv).toNat)
  case atStart => exact ⟨0, Nat.zero_le _, rfl, ⟨OB.nil w2 (Below.refl _ _), OB.nil w2 (Below.refl _ _), fun g h => by cases h⟩⟩
  case round =>
    obtain ⟨k, hk, rfl, hrel⟩ := hrel
    have HK := Lib.hid hrel
    clear hrel
    by_cases hlt : k < n
    · have hkl : k < l.length := by rw [HL.out]; exact hlt
      have HLA : Hid (((l.take k).filter (fun x => decide (now < x.to))).length ≤ 1000) := Lib.hid (by have := List.length_filter_le (fun x : Hd => decide (now < x.to)) (l.take k); rw [List.length_take] at this; omega)
      have HLB : Hid (((l.take k).filter (fun x => decide (x.to ≤ now))).length ≤ 1000) := Lib.hid (by have := List.length_filter_le (fun x : Hd => decide (x.to ≤ now)) (l.take k); rw [List.length_take] at this; omega)
      obtain ⟨b, off, A2, m2, c2, rfl, hbl, c0, c1', c2', c3', hel⟩ := (HS.out.below HK.out.a.below).el hlt
      have hyes1 := filter_take_yes (p := fun x => decide (now < x.to)) hkl
      have hyes2 := filter_take_yes (p := fun x => decide (x.to ≤ now)) hkl
      have hno1 := filter_take_no (p := fun x => decide (now < x.to)) hkl
      have hno2 := filter_take_no (p := fun x => decide (x.to ≤ now)) hkl
      obtain ⟨x, hx⟩ : ∃ x, l.getD k hd0 = x := ⟨_, rfl⟩
      rw [hx] at c0 c2' c3' hel hyes1 hyes2 hno1 hno2
      have hba : Below wr.heap.size wr (wr.alloc (hO x A2 m2 c2)) := (Below.refl _ _).alloc (Nat.le_refl _) _
      have HKa := Lib.hid (HK.out.next hba)
      have HBX : Hid (BoxH (wr.alloc (hO x A2 m2 c2)) wr.heap.size x A2 m2 c2) := Lib.hid (boxH_new wr x A2 m2 c2)
      have HEL : Hid (EH (wr.alloc (hO x A2 m2 c2)) (Lt w2.heap.size) x _) := Lib.hid (eh_steady.keep hel (fun b' hb' => hba.block b' (Nat.lt_of_lt_of_le hb' HK.out.a.below.size)) (fun _ h => h))
      unfold hO at HKa HBX HEL
      obtain ⟨Wa, hWa⟩ : ∃ Wa, wr.alloc (.cells #[.int .i64 x.id, .slice A2 m2 c2, .int .i64 x.frm, .int .i64 x.to] 37) = Wa := ⟨_, rfl⟩
      rw [hWa] at HKa HBX HEL
      have q0 := HBX.out.c0
      have q1 := HBX.out.c1
      have q2 := HBX.out.c2
      have q3 := HBX.out.c3
      by_cases hto : x.to ≤ now
      · have d0 : decide (x.to ≤ now) = true := decide_eq_true hto
        have HS1 := Lib.hid (hno1 (decide_eq_false (by omega)))
        have HS2 := Lib.hid (hyes2 d0)
        clear hyes1 hyes2 hno1 hno2 hel hx hto hkl hba hbl
        go_wp2_with (at_builtin; refine wpList_append_OB rfl (.tmp 26) (.tmp 28) 22 rfl eh_steady HKa.out.b i0 _ 48 Tryd.underlying22 hi0 hz0 hz1 hz2 rfl (by decide) rfl x #[.int .i64 x.id, .slice A2 m2 c2, .int .i64 x.frm, .int .i64 x.to] rfl rfl (by intro u hu; simp at hu; rcases hu with h | h | h | h <;> subst h <;> rfl) HEL.out (by have := HLB.out; unfold maxLen; omega) (by have := HLB.out; omega) ?_; intro v' w4 hOB hKP; refine Hid.out ?_)
        refine Lib.hid ?_
        have HT2 : Hid (Two w2 _ _ v' _ w4) := Lib.hid ⟨(HKa.out.a.keeps eh_steady hOB.below hKP HKa.out.ap.comm).1, hOB, (HKa.out.a.keeps eh_steady hOB.below hKP HKa.out.ap.comm).2.comm⟩
        clear hOB hKP c0 c1' c2' c3' q0 q1 q2 q3
        go_wp2
        go_roundw
        case rel => exact ⟨k + 1, by omega, by go_num, by rw [HS1.out, HS2.out]; exact HT2.out⟩
        case measure => simp [intOf]; omega
      · have d0 : decide (x.to ≤ now) = false := decide_eq_false hto
        have HS1 := Lib.hid (hyes1 (decide_eq_true (by omega)))
        have HS2 := Lib.hid (hno2 d0)
        clear hyes1 hyes2 hno1 hno2 hel hx hto hkl hba hbl
        go_wp2_with (at_builtin; refine wpList_append_OB rfl (.tmp 30) (.tmp 32) 22 rfl eh_steady HKa.out.a i0 _ 48 Tryd.underlying22 hi0 hz0 hz1 hz2 rfl (by decide) rfl x #[.int .i64 x.id, .slice A2 m2 c2, .int .i64 x.frm, .int .i64 x.to] rfl rfl (by intro u hu; simp at hu; rcases hu with h | h | h | h <;> subst h <;> rfl) HEL.out (by have := HLA.out; unfold maxLen; omega) (by have := HLA.out; omega) ?_; intro v' w4 hOB hKP; refine Hid.out ?_)
        refine Lib.hid ?_
        have HT2 : Hid (Two w2 v' _ _ _ w4) := Lib.hid ⟨hOB, (HKa.out.b.keeps eh_steady hOB.below hKP HKa.out.ap).1, (HKa.out.b.keeps eh_steady hOB.below hKP HKa.out.ap).2⟩
        clear hOB hKP c0 c1' c2' c3' q0 q1 q2 q3
        go_wp2
        go_roundw
        case rel => exact ⟨k + 1, by omega, by go_num, by rw [HS1.out, HS2.out]; exact HT2.out⟩
        case measure => simp [intOf]; omega
    · have hkn : k = n := by omega
      have htk : l.take k = l := List.take_of_length_le (by rw [HL.out]; omega)
      rw [htk, HGA.out, HGB.out] at HK
      obtain ⟨A1, c1, rfl, hr1, hn1, hc1⟩ := ob_table HK.out.a
      obtain ⟨A2, c2, rfl, hr2, hn2, hc2⟩ := ob_table HK.out.b
      have HP : Hid (TTPost ga gb w (.returned (.tuple #[.slice A1 ga.length c1, .slice A2 gb.length c2])) wr) := Lib.hid ⟨⟨A1, c1, A2, c2, rfl, hr1, hr2, ⟨hn1, hc1⟩, ⟨hn2, hc2⟩⟩, HB2.out.trans (HK.out.a.below.mono HB2.out.size)⟩
      clear hr1 hr2 hn1 hn2 hc1 hc2 htk
      go_wp2
      go_ret2
      exact HP.out
theorem heldOver_any (A : Option Addr) (n c : Nat) (l : Tb) (now : Int) (w : World) (hl : TAsk w A n c l) (hf : FewT l) :
    Calls Tryd.prog 6 #[.slice A n c, .int .i64 now] w (TTPost (restT l now) (goneT l now) w) := by
  cases h : rightT l with
  | true => exact heldOver_yes A n c l now w hl hf h
  | false =>
    have e1 : restT l now = l := by unfold restT; rw [h]; rfl
    have e2 : goneT l now = [] := by unfold goneT; rw [h]; rfl
    rw [e1, e2]
    exact heldOver_no A n c l now w hl hf h

end Go.Proofs.YtbiofikijehlcaaDoor

namespace Go.Proofs.YtbiofikijehlcaaDoor
open Go.RowKit

theorem heldBusy_any (A : Option Addr) (n c : Nat) (l : Tb) (a b : Int) (w : World) (hl : TAsk w A n c l) (hf : FewT l) :
    Calls Tryd.prog 9 #[.slice A n c, .int .i64 a, .int .i64 b] w (IPost (busyT l a b) w) := by
  cases h1 : rightT l with
  | false =>
    have e : busyT l a b = [] := by unfold busyT; rw [h1]; rfl
    rw [e]
    have R1 := Lib.hid h1
    have HT := Lib.hid hl
    have HF := Lib.hid hf
    clear h1 hl hf e
    go_enter Tryd.func9, Tryd.ntmps9
    go_wp2_with fail
    refine (heldRight_b HT.out.reads HT.out.nil HF.out R1.out).mono ?_
    rintro e w1 ⟨rfl, hb⟩
    have HB := Lib.hid hb
    clear hb
    go_wp2
    go_ret
    exact ipost_nil HB.out
  | true =>
    have R1 := Lib.hid h1
    have HT := Lib.hid hl
    have HF := Lib.hid hf
    obtain ⟨r, hr'⟩ : ∃ r, busyT l a b = r := ⟨_, rfl⟩
    have HRR := Lib.hid hr'
    rw [hr']
    clear h1 hl hf hr'
    go_enter Tryd.func9, Tryd.ntmps9
    go_wp2_with fail
    refine (heldRight_b HT.out.reads HT.out.nil HF.out R1.out).mono ?_
    rintro e w1 ⟨rfl, hb⟩
    have HB := Lib.hid hb
    have HT1 := Lib.hid (HT.out.next hb)
    clear hb
    go_wp2_with fail
    refine (calls_ipost (busy_any A n c l a b w1 HT1.out.reads HF.out R1.out) HRR.out).mono ?_
    rintro e w2 ⟨⟨A2, c2, rfl, hr, hnil, hc⟩, hb⟩
    have HP : Hid (IPost r w (.returned (.slice A2 r.length c2)) w2) := Lib.hid ⟨⟨A2, c2, rfl, hr, hnil, hc⟩, HB.out.trans (hb.mono HB.out.size)⟩
    clear hr hnil hc hb
    go_wp2
    go_ret
    exact HP.out

theorem BoxH.store4 {wr : World} {g : Nat} {x : Hd} {A : Option Addr} {m c : Nat} (b : BoxH wr g x A m c) (h : Hd) (A2 : Option Addr) (m2 c2 : Nat) :
    BoxH ((((wr.setCell ⟨g, 0, none⟩ (.int .i64 h.id)).setCell ⟨g, 1, none⟩ (.slice A2 m2 c2)).setCell ⟨g, 2, none⟩ (.int .i64 h.frm)).setCell ⟨g, 3, none⟩ (.int .i64 h.to)) g h A2 m2 c2 :=
  (((b.set (h' := ⟨h.id, [], x.frm, x.to⟩) rfl).set (h' := ⟨h.id, [], x.frm, x.to⟩) rfl).set (h' := ⟨h.id, [], h.frm, x.to⟩) rfl).set (h' := h) rfl
theorem below_four {B g : Nat} {w wr : World} {v0 v1 v2 v3 : Value} (hb : Below B w wr) (hg : B ≤ g) : Below B w ((((wr.setCell ⟨g, 0, none⟩ v0).setCell ⟨g, 1, none⟩ v1).setCell ⟨g, 2, none⟩ v2).setCell ⟨g, 3, none⟩ v3) :=
  (((hb.setCell (p := ⟨g, _, none⟩) hg v0).setCell (p := ⟨g, _, none⟩) hg v1).setCell (p := ⟨g, _, none⟩) hg v2).setCell (p := ⟨g, _, none⟩) hg v3
theorem four_other {b g : Nat} {wr : World} {v0 v1 v2 v3 : Value} (h : b ≠ g) : ((((wr.setCell ⟨g, 0, none⟩ v0).setCell ⟨g, 1, none⟩ v1).setCell ⟨g, 2, none⟩ v2).setCell ⟨g, 3, none⟩ v3).heap[b]? = wr.heap[b]? := by
  rw [Below.heap_setCell _ _ _ _ h, Below.heap_setCell _ _ _ _ h, Below.heap_setCell _ _ _ _ h, Below.heap_setCell _ _ _ _ h]
theorem four_size {g : Nat} {wr : World} {v0 v1 v2 v3 : Value} : ((((wr.setCell ⟨g, 0, none⟩ v0).setCell ⟨g, 1, none⟩ v1).setCell ⟨g, 2, none⟩ v2).setCell ⟨g, 3, none⟩ v3).heap.size = wr.heap.size := by simp [World.setCell]
/-- a holding as an element, as one by value -/
theorem EH.ask {w : World} {ok : Nat → Prop} {h : Hd} {A : Option Addr} {m c : Nat} (he : EH w ok h [.int .i64 h.id, .slice A m c, .int .i64 h.frm, .int .i64 h.to]) (hok : ∀ b, ok b → b < w.heap.size) : HAsk w A m c h := by
  obtain ⟨A', m', c', hv, hr, h1, h2, h3, h4⟩ := he
  injection hv with _ hv
  injection hv with hv _
  injection hv with e1 e2 e3
  subst e1 e2 e3
  exact ⟨RN.ri (hr.keep ei_steady (fun _ _ => rfl) hok), h1, h2, h3, h4⟩
theorem hd0_ask (w : World) : HAsk w none 0 0 hd0 := ⟨RI.nil, fun _ => rfl, Nat.le_refl _, Nat.zero_le _, ⟨(by unfold I64; simp [hd0]), (by unfold I64; simp [hd0]), (by unfold I64; simp [hd0]), fun n hn => by cases hn⟩⟩





end Go.Proofs.YtbiofikijehlcaaDoor

namespace Go.Proofs.YtbiofikijehlcaaDoor

abbrev Rising (l : List Int) : Prop := l.Pairwise fun a b => a < b
theorem rise_ext : ∀ {a b : List Int}, Rising a → Rising b → (∀ x, x ∈ a ↔ x ∈ b) → a = b
  | [], [], _, _, _ => rfl
  | [], y :: b, _, _, h => by have := (h y).2 (List.mem_cons_self ..); cases this
  | x :: a, [], _, _, h => by have := (h x).1 (List.mem_cons_self ..); cases this
  | x :: a, y :: b, ha, hb, h => by
    unfold Rising at ha hb
    rw [List.pairwise_cons] at ha hb
    have hxy : x = y := by
      rcases List.mem_cons.1 ((h x).1 (List.mem_cons_self ..)) with e | e
      · exact e
      · rcases List.mem_cons.1 ((h y).2 (List.mem_cons_self ..)) with e' | e'
        · exact e'.symm
        · have h1 := hb.1 x e
          have h2 := ha.1 y e'
          omega
    subst hxy
    congr 1
    refine rise_ext ha.2 hb.2 fun z => ?_
    constructor
    · intro hz
      rcases List.mem_cons.1 ((h z).1 (List.mem_cons_of_mem _ hz)) with e | e
      · subst e; have := ha.1 z hz; omega
      · exact e
    · intro hz
      rcases List.mem_cons.1 ((h z).2 (List.mem_cons_of_mem _ hz)) with e | e
      · subst e; have := hb.1 z hz; omega
      · exact e
theorem mem_insZ {x z : Int} : ∀ {l : List Int}, z ∈ insZ x l ↔ z = x ∨ z ∈ l
  | [] => by simp [insZ]
  | y :: r => by
    unfold insZ
    split
    · simp
    · split
      · rename_i e
        subst e
        simp
      · rw [List.mem_cons, mem_insZ, List.mem_cons]
        constructor
        · rintro (h | h | h)
          · exact .inr (.inl h)
          · exact .inl h
          · exact .inr (.inr h)
        · rintro (h | h | h)
          · exact .inr (.inl h)
          · exact .inl h
          · exact .inr (.inr h)
theorem rising_insZ {x : Int} : ∀ {l : List Int}, Rising l → Rising (insZ x l)
  | [], _ => List.pairwise_singleton _ _
  | y :: r, h => by
    have h' := List.pairwise_cons.1 h
    unfold insZ
    split
    · rename_i hlt
      refine List.pairwise_cons.2 ⟨fun z hz => ?_, h⟩
      rcases List.mem_cons.1 hz with e | e
      · subst e; exact hlt
      · have := h'.1 z e; omega
    · split
      · exact h
      · rename_i h1 h2
        refine List.pairwise_cons.2 ⟨fun z hz => ?_, rising_insZ h'.2⟩
        rcases mem_insZ.1 hz with e | e
        · subst e; omega
        · exact h'.1 z e
theorem mem_foldZ {z : Int} : ∀ {l : List Int}, z ∈ l.foldr insZ [] ↔ z ∈ l
  | [] => Iff.rfl
  | x :: r => by rw [List.foldr_cons, mem_insZ, mem_foldZ, List.mem_cons]
theorem rising_foldZ : ∀ (l : List Int), Rising (l.foldr insZ [])
  | [] => List.Pairwise.nil
  | _ :: r => rising_insZ (rising_foldZ r)
section
variable {zs : List Int}
theorem keeps_first (zs : List Int) : ∀ j, j < zs.length → ∃ i, i ≤ j ∧ Lib.keeps zs.toArray i = true ∧ zs.toArray[i]! = zs.toArray[j]!
  | 0, _ => ⟨0, Nat.le_refl _, by simp [Lib.keeps], rfl⟩
  | j + 1, hj => by
    by_cases h : zs.toArray[j + 1]! = zs.toArray[j]!
    · obtain ⟨i, h1, h2, h3⟩ := keeps_first zs j (by omega)
      exact ⟨i, by omega, h2, h3.trans h.symm⟩
    · exact ⟨j + 1, Nat.le_refl _, by simpa [Lib.keeps] using h, rfl⟩
theorem arr_at {j : Nat} (hj : j < zs.length) : zs.toArray[j]! = zs[j] := by rw [getElem!_pos _ _ (by simpa using hj)]; simp
theorem mem_compact {x : Int} : x ∈ Lib.compactUpTo zs.toArray zs.length ↔ x ∈ zs := by
  unfold Lib.compactUpTo
  rw [List.mem_map]
  constructor
  · rintro ⟨j, hj, rfl⟩
    rw [List.mem_filter, List.mem_range] at hj
    rw [arr_at hj.1]
    exact List.getElem_mem hj.1
  · intro hx
    obtain ⟨j, hj, rfl⟩ := List.getElem_of_mem hx
    obtain ⟨i, h1, h2, h3⟩ := keeps_first zs j hj
    exact ⟨i, by rw [List.mem_filter, List.mem_range]; exact ⟨by omega, h2⟩, by rw [h3, arr_at hj]⟩
theorem rising_compact (h : zs.Pairwise fun a b => a ≤ b) : Rising (Lib.compactUpTo zs.toArray zs.length) := by
  unfold Lib.compactUpTo Rising
  rw [List.pairwise_map, List.pairwise_filter]
  refine List.pairwise_iff_getElem.2 fun i j hi hj hij _ hk => ?_
  simp only [List.getElem_range, List.length_range] at hi hj hk ⊢
  rw [arr_at (by omega), arr_at (by omega)]
  have hne : zs.toArray[j]! ≠ zs.toArray[j - 1]! := by
    have : j ≠ 0 := by omega
    simpa [Lib.keeps, this] using hk
  rw [arr_at (by omega), arr_at (by omega)] at hne
  have h1 : zs[i] ≤ zs[j - 1] := by
    rcases Nat.eq_or_lt_of_le (show i ≤ j - 1 by omega) with e | e
    · subst e; exact Int.le_refl _
    · exact List.pairwise_iff_getElem.1 h i (j - 1) (by omega) (by omega) e
  have h2 := List.pairwise_iff_getElem.1 h (j - 1) j (by omega) (by omega) (by omega)
  omega
end
theorem sort_le (l : List Int) : (l.mergeSort fun x y => decide (x ≤ y)).Pairwise fun a b => a ≤ b :=
  (List.pairwise_mergeSort (fun a b c h1 h2 => by simp at *; omega) (fun a b => by simp; omega) l).imp fun h => by simpa using h
/-- sorted, and each but once -/
theorem compact_sort (l : List Int) : Lib.compactUpTo (l.mergeSort fun x y => decide (x ≤ y)).toArray (l.mergeSort fun x y => decide (x ≤ y)).length = l.foldr insZ [] :=
  rise_ext (rising_compact (sort_le l)) (rising_foldZ l) fun x => by rw [mem_compact, mem_foldZ, List.mem_mergeSort]
theorem fold_short {l : List Int} (h : l.length < 2) : l.foldr insZ [] = l := by
  match l, h with
  | [], _ => rfl
  | [x], _ => rfl

end Go.Proofs.YtbiofikijehlcaaDoor

namespace Go.Proofs
open Go.Shelf
open Go.RowKit
def Tryd.sortTimes_ren : Go.Shelf.Ren := ⟨fun | 5 => 28 | 7 => 45 | 8 => 46 | 10 => 50 | 11 => 51 | 12 => 52 | 13 => 53 | 14 => 54 | 15 => 55 | 16 => 56 | 17 => 57 | 18 => 58 | 19 => 59 | 20 => 60 | 30 => 65 | 31 => 66 | 32 => 67 | 33 => 68 | 34 => 69 | 35 => 70 | 40 => 72 | n => n, fun | 0 => 0 | 3 => 3 | 4 => 4 | 5 => 5 | 9 => 9 | 22 => 38 | 23 => 38 | 25 => 2 | 32 => 70 | 35 => 75 | 36 => 76 | 41 => 50 | 44 => 83 | 46 => 42 | 53 => 88 | 57 => 92 | 63 => 95 | 64 => 96 | n => n, fun | n => n⟩
theorem Tryd.sortTimes : Go.Proofs.SlLaysM.n5 Tryd.prog Tryd.sortTimes_ren := {
  mixed := by kernel_rfl
  f5 := ⟨Tryd.f28.name, by decide, Tryd.func28.trans (congrArg some (by kernel_rfl))⟩
  f7 := ⟨Tryd.f45.name, by decide, Tryd.func45.trans (congrArg some (by kernel_rfl))⟩
  f8 := Tryd.func46.trans (congrArg some (by kernel_rfl))
  f10 := ⟨Tryd.f50.name, by decide, Tryd.func50.trans (congrArg some (by kernel_rfl))⟩
  f11 := ⟨Tryd.f51.name, by decide, Tryd.func51.trans (congrArg some (by kernel_rfl))⟩
  f12 := ⟨Tryd.f52.name, by decide, Tryd.func52.trans (congrArg some (by kernel_rfl))⟩
  f13 := ⟨Tryd.f53.name, by decide, Tryd.func53.trans (congrArg some (by kernel_rfl))⟩
  f14 := ⟨Tryd.f54.name, by decide, Tryd.func54.trans (congrArg some (by kernel_rfl))⟩
  f15 := ⟨Tryd.f55.name, by decide, Tryd.func55.trans (congrArg some (by kernel_rfl))⟩
  f16 := ⟨Tryd.f56.name, by decide, Tryd.func56.trans (congrArg some (by kernel_rfl))⟩
  f17 := ⟨Tryd.f57.name, by decide, Tryd.func57.trans (congrArg some (by kernel_rfl))⟩
  f18 := ⟨Tryd.f58.name, by decide, Tryd.func58.trans (congrArg some (by kernel_rfl))⟩
  f19 := Tryd.func59.trans (congrArg some (by kernel_rfl))
  f20 := Tryd.func60.trans (congrArg some (by kernel_rfl))
  f30 := ⟨Tryd.f65.name, by decide, Tryd.func65.trans (congrArg some (by kernel_rfl))⟩
  f31 := Tryd.func66.trans (congrArg some (by kernel_rfl))
  f32 := Tryd.func67.trans (congrArg some (by kernel_rfl))
  f33 := ⟨Tryd.f68.name, by decide, Tryd.func68.trans (congrArg some (by kernel_rfl))⟩
  f34 := ⟨Tryd.f69.name, by decide, Tryd.func69.trans (congrArg some (by kernel_rfl))⟩
  f35 := ⟨Tryd.f70.name, by decide, Tryd.func70.trans (congrArg some (by kernel_rfl))⟩
  f40 := ⟨Tryd.f72.name, by decide, Tryd.func72.trans (congrArg some (by kernel_rfl))⟩
  t0 := Tryd.underlying0
  a0 := Tryd.isAgg0
  z0 := Tryd.sizeOf0
  v0 := Tryd.zeroValue0
  t3 := Tryd.underlying3
  a3 := Tryd.isAgg3
  z3 := Tryd.sizeOf3
  v3 := Tryd.zeroValue3
  t4 := Tryd.underlying4
  a4 := Tryd.isAgg4
  z4 := Tryd.sizeOf4
  v4 := Tryd.zeroValue4
  t5 := Tryd.underlying5
  a5 := Tryd.isAgg5
  z5 := Tryd.sizeOf5
  v5 := Tryd.zeroValue5
  t9 := Tryd.underlying9
  a9 := Tryd.isAgg9
  z9 := Tryd.sizeOf9
  v9 := Tryd.zeroValue9
  t22 := Tryd.underlying38
  a22 := Tryd.isAgg38
  z22 := Tryd.sizeOf38
  v22 := Tryd.zeroValue38
  t23 := Tryd.underlying38
  a23 := Tryd.isAgg38
  z23 := Tryd.sizeOf38
  v23 := Tryd.zeroValue38
  t25 := Tryd.underlying2
  a25 := Tryd.isAgg2
  z25 := Tryd.sizeOf2
  v25 := Tryd.zeroValue2
  t32 := Tryd.underlying70
  a32 := Tryd.isAgg70
  z32 := Tryd.sizeOf70
  v32 := Tryd.zeroValue70
  t35 := Tryd.underlying75
  a35 := Tryd.isAgg75
  z35 := Tryd.sizeOf75
  v35 := Tryd.zeroValue75
  t36 := Tryd.underlying76
  a36 := Tryd.isAgg76
  z36 := Tryd.sizeOf76
  v36 := Tryd.zeroValue76
  t41 := Tryd.underlying50
  a41 := Tryd.isAgg50
  z41 := Tryd.sizeOf50
  v41 := Tryd.zeroValue50
  t44 := Tryd.underlying83
  a44 := Tryd.isAgg83
  z44 := Tryd.sizeOf83
  v44 := Tryd.zeroValue83
  t46 := Tryd.underlying42
  a46 := Tryd.isAgg42
  z46 := Tryd.sizeOf42
  v46 := Tryd.zeroValue42
  t53 := Tryd.underlying88
  a53 := Tryd.isAgg88
  z53 := Tryd.sizeOf88
  v53 := Tryd.zeroValue88
  t57 := Tryd.underlying92
  a57 := Tryd.isAgg92
  z57 := Tryd.sizeOf92
  v57 := Tryd.zeroValue92
  t63 := Tryd.underlying95
  a63 := Tryd.isAgg95
  z63 := Tryd.sizeOf95
  v63 := Tryd.zeroValue95
  t64 := Tryd.underlying96
  a64 := Tryd.isAgg96
  z64 := Tryd.sizeOf96
  v64 := Tryd.zeroValue96
}
def Tryd.compactTimes_ren : Go.Shelf.Ren := ⟨fun | 43 => 29 | n => n, fun | 0 => 0 | 3 => 3 | 4 => 4 | 22 => 38 | 23 => 2 | n => n, fun | n => n⟩
theorem Tryd.compactTimes : Go.Proofs.SlLaysE.n43 Tryd.prog Tryd.compactTimes_ren := {
  mixed := by kernel_rfl
  f43 := ⟨Tryd.f29.name, by decide, Tryd.func29.trans (congrArg some (by kernel_rfl))⟩
  t0 := Tryd.underlying0
  a0 := Tryd.isAgg0
  z0 := Tryd.sizeOf0
  v0 := Tryd.zeroValue0
  t3 := Tryd.underlying3
  a3 := Tryd.isAgg3
  z3 := Tryd.sizeOf3
  v3 := Tryd.zeroValue3
  t4 := Tryd.underlying4
  a4 := Tryd.isAgg4
  z4 := Tryd.sizeOf4
  v4 := Tryd.zeroValue4
  t22 := Tryd.underlying38
  a22 := Tryd.isAgg38
  z22 := Tryd.sizeOf38
  v22 := Tryd.zeroValue38
  a23 := Tryd.isAgg2
  z23 := Tryd.sizeOf2
}

end Go.Proofs
