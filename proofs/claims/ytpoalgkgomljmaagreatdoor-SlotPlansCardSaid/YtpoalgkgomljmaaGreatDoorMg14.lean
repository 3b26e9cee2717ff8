/- The program's Add of layer 10. Written by gen/gen_heldpadd.py. Go's slices.Sort and slices.Compact of times (int64) at this dump, by the library's contract. slices.Sort and slices.Compact of times, by the library's contracts, in a row of one's own. The program's times of layer 13: the times that count. Written by gen/gen_slotp.py. The program's First of layer 13. Written by gen/gen_slotp.py. -/
import Derived.Deep.RegionHeld3
import Derived.Test.YtpoalgkgomljmaaGreatDoorMg12
import Derived.Test.YtpoalgkgomljmaaGreatDoorMg13
import Derived.Shelf.SortM.Plain
import Derived.Shelf.SortM.SortNone
import Derived.Shelf.SlicesE.Compact
import Derived.Test.YtpoalgkgomljmaaGreatDoorProg
import Derived.Test.YtpoalgkgomljmaaGreatDoorMg11
import Derived.Test.YtpoalgkgomljmaaGreatDoorMg07
namespace Go.Proofs.YtpoalgkgomljmaaGreatDoor
open Go.RowKit

theorem keep_cellH {w wx : World} {p : Addr} {v : Value} (hl : p.block < w.heap.size) (h : w.cell? p = some v) (hb : Below w.heap.size w wx) : wx.cell? p = some v := (hb.cell hl).trans h
theorem bel_drewH (w : World) : Below w.heap.size w w.drew := bel_drew w 1
/-- a row of holdings of one's own, carried from world to world -/
def ONH (w : World) (v : Value) (l : Tb) (wr : World) : Prop := ON EH 4 51 w v l wr
theorem ONH.next {w wr w1 : World} {v : Value} {l : Tb} (h : ONH w v l wr) (hb : Below wr.heap.size wr w1) : ONH w v l w1 := ON.next eh_steady h hb
theorem onh_post {W w wr : World} {A : Option Addr} {n c : Nat} {l : Tb} {er : Int} (h : ONH W (.slice A n c) l wr) (hb : Below w.heap.size w wr) : TEPost l er w (.returned (.tuple #[.slice A n c, .int .i64 er])) wr := by
  obtain ⟨A', c', e, h1, h2⟩ := ON.form h
  injection e with e1 e2 e3
  subst e1 e2 e3
  exact tepost_mk (ON.reads eh_steady (by omega) h rfl) h1 h2 hb
set_option maxHeartbeats 4000000 in
set_option maxRecDepth 100000 in
/-- into no row at all -/
theorem insertH_none {base vb : Nat} {v0 v1 v2 v3 : Value} {w : World} (hb : base ≤ w.heap.size)
    (hv : w.heap[vb]? = some (.cells #[v0, v1, v2, v3] 51 (0, 0))) (h4 : ∀ u ∈ ([v0, v1, v2, v3] : List Value), u.oneCell' = true) :
    Calls Tryz.prog 52 #[.slice none 0 0, .int .i64 0, .slice (some ⟨vb, 0, none⟩) 1 1] w (InsQ base 1 [v0, v1, v2, v3] (.slice none 0 0) w) := by
  obtain ⟨i0, hi0, hz0, hz1, hz2⟩ : ∃ i, Tryz.prog.info? 51 = some i ∧ i.zero = some (.agg #[.int .i64 0, .slice none 0 0, .int .i64 0, .int .i64 0]) ∧ i.size = 4 ∧ i.bytes = 48 := info_parts held_info
  have HO : Hid (w.ownsRow base 51 4 (.slice none 0 0) 0 []) := Lib.hid (by simpa using World.ownsRow_nil w base 51 4)
  have HV := Lib.hid hv
  have H4 := Lib.hid h4
  have HBB := Lib.hid hb
  clear hv h4 hb
  go_enter Tryz.func52, Tryz.ntmps52
  go_wp2_with (at_builtin; refine wpList_append_lies _ rfl _ _ 24 rfl base 51 i0 (.agg #[.int .i64 0, .slice none 0 0, .int .i64 0, .int .i64 0]) 4 48 Tryz.underlying24 hi0 hz0 hz1 hz2 rfl (by decide) (.slice none 0 0) 0 _ rfl HO.out ⟨vb, 0, none⟩ 1 1 [v0, v1, v2, v3] rfl rfl (World.news_of_block HV.out) H4.out (by omega) (by unfold maxLen; omega) (by omega) HBB.out _ rfl ?_; intro g' cap' w1 hown' hgrow hat _; refine Hid.out ?_)
  all_goals refine Lib.hid ?_
  all_goals have R := Lib.hid hown'
  all_goals have HB : Hid (Below base w w1) := Lib.hid ((Below.refl _ _).grown hgrow HBB.out (fun k hk => by cases hk))
  all_goals have HK : Hid (Keeps w (.slice none 0 0) w1 (.slice (some ⟨g', 0, none⟩) 1 cap')) := Lib.hid ⟨fun b hb hne => hgrow.block b hb (fun e => hne e.symm), hgrow.size, hat.imp (fun e => e.symm) (fun e b hb => by
      have hb' : g' = b := by simpa [Value.ownBlock] using hb
      rw [← hb', e]; exact Nat.le_refl _)⟩
  all_goals clear hown' hgrow hat
  all_goals go_wp2
  all_goals go_ret
  all_goals exact ⟨_, rfl, R.out, HB.out, HK.out⟩
theorem insertH_all (base i vb n : Nat) (A : Option Addr) (c : Nat) (fl : List Value) (v0 v1 v2 v3 : Value) (w : World) (hi : i ≤ n) (hn : n ≤ 3000) (hb : base ≤ w.heap.size) (hown : w.ownsRow base 51 4 (.slice A n c) n fl) (h1c : ∀ u ∈ fl, u.oneCell' = true)
    (hv : w.heap[vb]? = some (.cells #[v0, v1, v2, v3] 51 (0, 0))) (h41 : ∀ u ∈ ([v0, v1, v2, v3] : List Value), u.oneCell' = true) (hne : ∀ g, A = some ⟨g, 0, none⟩ → vb ≠ g) :
    Calls Tryz.prog 52 #[.slice A n c, .int .i64 i, .slice (some ⟨vb, 0, none⟩) 1 1] w (InsQ base (n + 1) (fl.take (i * 4) ++ ([v0, v1, v2, v3] ++ fl.drop (i * 4))) (.slice A n c) w) := by
  rcases Nat.eq_zero_or_pos n with h0 | h0
  · subst h0
    obtain rfl : i = 0 := by omega
    have hfl : fl = [] := List.eq_nil_of_length_eq_zero (by have := hown.1; omega)
    subst hfl
    rcases id hown.2 with ⟨e, _⟩ | ⟨g, cap, cur, e, _⟩
    · injection e with e1 _ e3
      subst e1 e3
      exact insertH_none hb hv h41
    · injection e with e1 _ e3
      subst e1 e3
      exact insertH_end (fl := []) (by omega) hown hv h41
  · exact insertH_any base i vb n A c fl v0 v1 v2 v3 w h0 hi hn hown h1c hv h41 hne
theorem four_one (h : Hd) (A : Option Addr) (m c : Nat) : ∀ u ∈ ([.int .i64 h.id, .slice A m c, .int .i64 h.frm, .int .i64 h.to] : List Value), u.oneCell' = true := by
  intro u hu
  simp at hu
  rcases hu with rfl | rfl | rfl | rfl <;> rfl
/-- a holding more in a table of one's own -/
theorem insertH_on {W wr : World} {A : Option Addr} {n c K : Nat} {l : Tb} {h : Hd} {A5 : Option Addr} {m c5 : Nat} (hO : ONH W (.slice A n c) l wr) (hn : n ≤ 3000) (hln : l.length = n) (hK : K ≤ n) (hh : EH wr (fun b => b < wr.heap.size ∧ (Value.slice A n c).ownBlock ≠ some b) h [.int .i64 h.id, .slice A5 m c5, .int .i64 h.frm, .int .i64 h.to]) :
    Calls Tryz.prog 52 #[.slice A n c, .int .i64 K, .slice (some ⟨wr.heap.size, 0, none⟩) 1 1] (wr.alloc (.cells #[.int .i64 h.id, .slice A5 m c5, .int .i64 h.frm, .int .i64 h.to] 51)) fun e w' => ∃ v', e = .returned v' ∧ ONH W v' (l.take K ++ h :: l.drop K) w' := by
  have hba : Below wr.heap.size wr (wr.alloc (.cells #[.int .i64 h.id, .slice A5 m c5, .int .i64 h.frm, .int .i64 h.to] 51)) := (Below.refl _ _).alloc (Nat.le_refl _) _
  have hO1 := hO.next hba
  obtain ⟨fl, f1, f2, f3⟩ := id hO1
  have hfl := f1.1
  have hWs : W.heap.size ≤ wr.heap.size := (ON.below hO).size
  rw [hln] at f1
  refine (insertH_all W.heap.size K wr.heap.size n A c fl _ _ _ _ _ hK hn (by simp; omega) f1 (flat_one hfl f3) (heap_alloc_new wr _) (four_one h A5 m c5) (fun g e => ?_)).mono ?_
  · subst e
    obtain ⟨_, h1, _⟩ := id hO
    have := (h1.lt g rfl).2
    omega
  · rintro e w7 ⟨v', rfl, h1, h2, h3⟩
    refine ⟨v', rfl, ins_on f2 h1 h2 h3 (by simp [hln]; omega) (ins_cells (ok := fun b => b < (wr.alloc (.cells #[.int .i64 h.id, .slice A5 m c5, .int .i64 h.frm, .int .i64 h.to] 51)).heap.size ∧ (Value.slice A n c).ownBlock ≠ some b) hfl (by omega) f3 (eh_steady.keep hh (fun b hb => hba.block b hb.1) (fun b hb => ⟨Nat.lt_of_lt_of_le hb.1 hba.size, hb.2⟩)))⟩
theorem busyT_len (l : Tb) (a b : Int) : (busyT l a b).length ≤ 256 := by
  unfold busyT
  split
  · exact length_pickL _
  · exact Nat.zero_le _
theorem apart_comm (a b : List Int) : apartB a b = apartB b a := by
  unfold apartB
  rw [Bool.eq_iff_iff]
  simp only [Bool.and_eq_true, List.all_eq_true, Bool.not_eq_true', ← Bool.not_eq_true, List.contains_iff_mem]
  exact ⟨fun ⟨⟨h1, h2⟩, h3⟩ => ⟨⟨h2, h1⟩, fun n hn hm => h3 n hm hn⟩, fun ⟨⟨h1, h2⟩, h3⟩ => ⟨⟨h2, h1⟩, fun n hn hm => h3 n hm hn⟩⟩

set_option maxRecDepth 100000 in
set_option maxHeartbeats 8000000 in
theorem heldAdd_1 (A : Option Addr) (n c : Nat) (l : Tb) (A2 : Option Addr) (m c2 : Nat) (h : Hd) (w : World) (hl : TAsk w A n c l) (hf : FewT l) (hh : HAsk w A2 m c2 h) (_ : m ≤ 100) (h1 : rightT l = false) :
    Calls Tryz.prog 24 #[.slice A n c, .agg #[.int .i64 h.id, .slice A2 m c2, .int .i64 h.frm, .int .i64 h.to]] w (TEPost l 1 w) := by
  obtain ⟨W, hW⟩ : ∃ W, W = w.alloc (hO h A2 m c2) := ⟨_, rfl⟩
  have BX : Hid (BoxH W w.heap.size h A2 m c2) := Lib.hid (by rw [hW]; exact boxH_new w h A2 m c2)
  have hb0 : Below w.heap.size w W := by rw [hW]; exact (Below.refl _ _).alloc (Nat.le_refl _) _
  have HB := Lib.hid hb0
  have HB0 := Lib.hid hb0
  have HT := Lib.hid (hl.next hb0)
  have HH := Lib.hid (hh.next hb0)
  have HF := Lib.hid hf
  have HLN := Lib.hid hl.reads.len
  have hn100 : n ≤ 100 := by rw [← hl.reads.len]; exact hf.1
  have R1 := Lib.hid h1
  clear h1
  unfold hO at hW
  clear hb0 hl hh hf
  have q0 := BX.out.c0
  have q1 := BX.out.c1
  have q2 := BX.out.c2
  have q3 := BX.out.c3
  go_enter Tryz.func24, Tryz.ntmps24
  go_wp2_with fail
  rw [← hW]
  refine (heldSame_any A n c l W HT.out.reads HT.out.nil HF.out).mono ?_
  rintro e w1 ⟨v, rfl, hon⟩
  have hb := hon.below
  obtain ⟨A1, c1, rfl, hz1, hz2⟩ := hon.form
  rw [HLN.out] at hon ⊢
  clear hz1 hz2
  have HBq := Lib.hid (HB.out.trans (hb.mono HB.out.size))
  clear HB
  have HB := HBq
  clear HBq
  have HTq := Lib.hid (HT.out.next hb)
  clear HT
  have HT := HTq
  clear HTq
  have HHq := Lib.hid (HH.out.next hb)
  clear HH
  have HH := HHq
  clear HHq
  have BXq := Lib.hid (BX.out.next hb)
  clear BX
  have BX := BXq
  clear BXq
  clear hb
  have HO := Lib.hid (show ONH W _ l w1 from hon)
  clear hon
  clear hW
  clear q0 q1 q2 q3
  have q0 := BX.out.c0
  have q1 := BX.out.c1
  have q2 := BX.out.c2
  have q3 := BX.out.c3
  go_wp2_with fail
  refine (heldRight_b HT.out.reads HT.out.nil HF.out R1.out).mono ?_
  rintro e w2 ⟨rfl, hb⟩
  have HBq := Lib.hid (HB.out.trans (hb.mono HB.out.size))
  clear HB
  have HB := HBq
  clear HBq
  have HTq := Lib.hid (HT.out.next hb)
  clear HT
  have HT := HTq
  clear HTq
  have HHq := Lib.hid (HH.out.next hb)
  clear HH
  have HH := HHq
  clear HHq
  have BXq := Lib.hid (BX.out.next hb)
  clear BX
  have BX := BXq
  clear BXq
  have HOq := Lib.hid (HO.out.next hb)
  clear HO
  have HO := HOq
  clear HOq
  clear hb
  clear q0 q1 q2 q3
  have q0 := BX.out.c0
  have q1 := BX.out.c1
  have q2 := BX.out.c2
  have q3 := BX.out.c3
  go_wp2
  go_ret2
  exact onh_post HO.out HB.out

set_option maxRecDepth 100000 in
set_option maxHeartbeats 8000000 in
theorem heldAdd_2 (A : Option Addr) (n c : Nat) (l : Tb) (A2 : Option Addr) (m c2 : Nat) (h : Hd) (w : World) (hl : TAsk w A n c l) (hf : FewT l) (hh : HAsk w A2 m c2 h) (_ : m ≤ 100) (h1 : rightT l = true) (h2 : mayH h = false) :
    Calls Tryz.prog 24 #[.slice A n c, .agg #[.int .i64 h.id, .slice A2 m c2, .int .i64 h.frm, .int .i64 h.to]] w (TEPost l 1 w) := by
  obtain ⟨W, hW⟩ : ∃ W, W = w.alloc (hO h A2 m c2) := ⟨_, rfl⟩
  have BX : Hid (BoxH W w.heap.size h A2 m c2) := Lib.hid (by rw [hW]; exact boxH_new w h A2 m c2)
  have hb0 : Below w.heap.size w W := by rw [hW]; exact (Below.refl _ _).alloc (Nat.le_refl _) _
  have HB := Lib.hid hb0
  have HB0 := Lib.hid hb0
  have HT := Lib.hid (hl.next hb0)
  have HH := Lib.hid (hh.next hb0)
  have HF := Lib.hid hf
  have HLN := Lib.hid hl.reads.len
  have hn100 : n ≤ 100 := by rw [← hl.reads.len]; exact hf.1
  have R1 := Lib.hid h1
  have M1 := Lib.hid h2
  clear h1 h2
  unfold hO at hW
  clear hb0 hl hh hf
  have q0 := BX.out.c0
  have q1 := BX.out.c1
  have q2 := BX.out.c2
  have q3 := BX.out.c3
  go_enter Tryz.func24, Tryz.ntmps24
  go_wp2_with fail
  rw [← hW]
  refine (heldSame_any A n c l W HT.out.reads HT.out.nil HF.out).mono ?_
  rintro e w1 ⟨v, rfl, hon⟩
  have hb := hon.below
  obtain ⟨A1, c1, rfl, hz1, hz2⟩ := hon.form
  rw [HLN.out] at hon ⊢
  clear hz1 hz2
  have HBq := Lib.hid (HB.out.trans (hb.mono HB.out.size))
  clear HB
  have HB := HBq
  clear HBq
  have HTq := Lib.hid (HT.out.next hb)
  clear HT
  have HT := HTq
  clear HTq
  have HHq := Lib.hid (HH.out.next hb)
  clear HH
  have HH := HHq
  clear HHq
  have BXq := Lib.hid (BX.out.next hb)
  clear BX
  have BX := BXq
  clear BXq
  clear hb
  have HO := Lib.hid (show ONH W _ l w1 from hon)
  clear hon
  clear hW
  clear q0 q1 q2 q3
  have q0 := BX.out.c0
  have q1 := BX.out.c1
  have q2 := BX.out.c2
  have q3 := BX.out.c3
  go_wp2_with fail
  refine (heldRight_b HT.out.reads HT.out.nil HF.out R1.out).mono ?_
  rintro e w2 ⟨rfl, hb⟩
  have HBq := Lib.hid (HB.out.trans (hb.mono HB.out.size))
  clear HB
  have HB := HBq
  clear HBq
  have HTq := Lib.hid (HT.out.next hb)
  clear HT
  have HT := HTq
  clear HTq
  have HHq := Lib.hid (HH.out.next hb)
  clear HH
  have HH := HHq
  clear HHq
  have BXq := Lib.hid (BX.out.next hb)
  clear BX
  have BX := BXq
  clear BXq
  have HOq := Lib.hid (HO.out.next hb)
  clear HO
  have HO := HOq
  clear HOq
  clear hb
  clear q0 q1 q2 q3
  have q0 := BX.out.c0
  have q1 := BX.out.c1
  have q2 := BX.out.c2
  have q3 := BX.out.c3
  go_wp2_with fail
  refine (may_any HH.out M1.out).mono ?_
  rintro e w3 ⟨rfl, hb⟩
  have HBq := Lib.hid (HB.out.trans (hb.mono HB.out.size))
  clear HB
  have HB := HBq
  clear HBq
  have HTq := Lib.hid (HT.out.next hb)
  clear HT
  have HT := HTq
  clear HTq
  have HHq := Lib.hid (HH.out.next hb)
  clear HH
  have HH := HHq
  clear HHq
  have BXq := Lib.hid (BX.out.next hb)
  clear BX
  have BX := BXq
  clear BXq
  have HOq := Lib.hid (HO.out.next hb)
  clear HO
  have HO := HOq
  clear HOq
  clear hb
  clear q0 q1 q2 q3
  have q0 := BX.out.c0
  have q1 := BX.out.c1
  have q2 := BX.out.c2
  have q3 := BX.out.c3
  go_wp2
  go_ret2
  exact onh_post HO.out HB.out

set_option maxRecDepth 100000 in
set_option maxHeartbeats 8000000 in
theorem heldAdd_3 (A : Option Addr) (n c : Nat) (l : Tb) (A2 : Option Addr) (m c2 : Nat) (h : Hd) (w : World) (hl : TAsk w A n c l) (hf : FewT l) (hh : HAsk w A2 m c2 h) (_ : m ≤ 100) (h1 : rightT l = true) (h2 : mayH h = true) (h3 : hasT l h.id = true) :
    Calls Tryz.prog 24 #[.slice A n c, .agg #[.int .i64 h.id, .slice A2 m c2, .int .i64 h.frm, .int .i64 h.to]] w (TEPost l 7 w) := by
  obtain ⟨W, hW⟩ : ∃ W, W = w.alloc (hO h A2 m c2) := ⟨_, rfl⟩
  have BX : Hid (BoxH W w.heap.size h A2 m c2) := Lib.hid (by rw [hW]; exact boxH_new w h A2 m c2)
  have hb0 : Below w.heap.size w W := by rw [hW]; exact (Below.refl _ _).alloc (Nat.le_refl _) _
  have HB := Lib.hid hb0
  have HB0 := Lib.hid hb0
  have HT := Lib.hid (hl.next hb0)
  have HH := Lib.hid (hh.next hb0)
  have HF := Lib.hid hf
  have HLN := Lib.hid hl.reads.len
  have hn100 : n ≤ 100 := by rw [← hl.reads.len]; exact hf.1
  have R1 := Lib.hid h1
  have M1 := Lib.hid h2
  have HHAS := Lib.hid h3
  have HIDS := Lib.hid (rightT_is.1 h1).ids
  clear h1 h2 h3
  unfold hO at hW
  clear hb0 hl hh hf
  have q0 := BX.out.c0
  have q1 := BX.out.c1
  have q2 := BX.out.c2
  have q3 := BX.out.c3
  go_enter Tryz.func24, Tryz.ntmps24
  go_wp2_with fail
  rw [← hW]
  refine (heldSame_any A n c l W HT.out.reads HT.out.nil HF.out).mono ?_
  rintro e w1 ⟨v, rfl, hon⟩
  have hb := hon.below
  obtain ⟨A1, c1, rfl, hz1, hz2⟩ := hon.form
  rw [HLN.out] at hon ⊢
  clear hz1 hz2
  have HBq := Lib.hid (HB.out.trans (hb.mono HB.out.size))
  clear HB
  have HB := HBq
  clear HBq
  have HTq := Lib.hid (HT.out.next hb)
  clear HT
  have HT := HTq
  clear HTq
  have HHq := Lib.hid (HH.out.next hb)
  clear HH
  have HH := HHq
  clear HHq
  have BXq := Lib.hid (BX.out.next hb)
  clear BX
  have BX := BXq
  clear BXq
  clear hb
  have HO := Lib.hid (show ONH W _ l w1 from hon)
  clear hon
  clear hW
  clear q0 q1 q2 q3
  have q0 := BX.out.c0
  have q1 := BX.out.c1
  have q2 := BX.out.c2
  have q3 := BX.out.c3
  go_wp2_with fail
  refine (heldRight_b HT.out.reads HT.out.nil HF.out R1.out).mono ?_
  rintro e w2 ⟨rfl, hb⟩
  have HBq := Lib.hid (HB.out.trans (hb.mono HB.out.size))
  clear HB
  have HB := HBq
  clear HBq
  have HTq := Lib.hid (HT.out.next hb)
  clear HT
  have HT := HTq
  clear HTq
  have HHq := Lib.hid (HH.out.next hb)
  clear HH
  have HH := HHq
  clear HHq
  have BXq := Lib.hid (BX.out.next hb)
  clear BX
  have BX := BXq
  clear BXq
  have HOq := Lib.hid (HO.out.next hb)
  clear HO
  have HO := HOq
  clear HOq
  clear hb
  clear q0 q1 q2 q3
  have q0 := BX.out.c0
  have q1 := BX.out.c1
  have q2 := BX.out.c2
  have q3 := BX.out.c3
  go_wp2_with fail
  refine (may_any HH.out M1.out).mono ?_
  rintro e w3 ⟨rfl, hb⟩
  have HBq := Lib.hid (HB.out.trans (hb.mono HB.out.size))
  clear HB
  have HB := HBq
  clear HBq
  have HTq := Lib.hid (HT.out.next hb)
  clear HT
  have HT := HTq
  clear HTq
  have HHq := Lib.hid (HH.out.next hb)
  clear HH
  have HH := HHq
  clear HHq
  have BXq := Lib.hid (BX.out.next hb)
  clear BX
  have BX := BXq
  clear BXq
  have HOq := Lib.hid (HO.out.next hb)
  clear HO
  have HO := HOq
  clear HOq
  clear hb
  clear q0 q1 q2 q3
  have q0 := BX.out.c0
  have q1 := BX.out.c1
  have q2 := BX.out.c2
  have q3 := BX.out.c3
  go_wp2_with fail
  refine (hfind_any A n c l h.id _ HT.out.reads (by omega) HIDS.out).mono ?_
  rintro e w4 ⟨⟨K, rfl, hK⟩, hb⟩
  have HK := Lib.hid hK
  have HKN : Hid (K ≤ n) := Lib.hid (by rw [← HLN.out]; exact hK.le)
  rw [here_has HIDS.out hK, HHAS.out]
  clear hK
  have HBq := Lib.hid (HB.out.trans (hb.mono HB.out.size))
  clear HB
  have HB := HBq
  clear HBq
  have HTq := Lib.hid (HT.out.next hb)
  clear HT
  have HT := HTq
  clear HTq
  have HHq := Lib.hid (HH.out.next hb)
  clear HH
  have HH := HHq
  clear HHq
  have BXq := Lib.hid (BX.out.next hb)
  clear BX
  have BX := BXq
  clear BXq
  have HOq := Lib.hid (HO.out.next hb)
  clear HO
  have HO := HOq
  clear HOq
  clear hb
  clear q0 q1 q2 q3
  have q0 := BX.out.c0
  have q1 := BX.out.c1
  have q2 := BX.out.c2
  have q3 := BX.out.c3
  go_wp2
  go_ret2
  exact onh_post HO.out HB.out

set_option maxRecDepth 100000 in
set_option maxHeartbeats 8000000 in
theorem heldAdd_4 (A : Option Addr) (n c : Nat) (l : Tb) (A2 : Option Addr) (m c2 : Nat) (h : Hd) (w : World) (hl : TAsk w A n c l) (hf : FewT l) (hh : HAsk w A2 m c2 h) (hm : m ≤ 100) (h1 : rightT l = true) (h2 : mayH h = true) (h3 : hasT l h.id = false) (h4 : apartB h.things (busyT l h.frm h.to) = false) :
    Calls Tryz.prog 24 #[.slice A n c, .agg #[.int .i64 h.id, .slice A2 m c2, .int .i64 h.frm, .int .i64 h.to]] w (TEPost l 5 w) := by
  obtain ⟨W, hW⟩ : ∃ W, W = w.alloc (hO h A2 m c2) := ⟨_, rfl⟩
  have BX : Hid (BoxH W w.heap.size h A2 m c2) := Lib.hid (by rw [hW]; exact boxH_new w h A2 m c2)
  have hb0 : Below w.heap.size w W := by rw [hW]; exact (Below.refl _ _).alloc (Nat.le_refl _) _
  have HB := Lib.hid hb0
  have HB0 := Lib.hid hb0
  have HT := Lib.hid (hl.next hb0)
  have HH := Lib.hid (hh.next hb0)
  have HF := Lib.hid hf
  have HLN := Lib.hid hl.reads.len
  have hn100 : n ≤ 100 := by rw [← hl.reads.len]; exact hf.1
  have R1 := Lib.hid h1
  have M1 := Lib.hid h2
  have HHAS := Lib.hid h3
  have HIDS := Lib.hid (rightT_is.1 h1).ids
  have HBN : Hid ((busyT l h.frm h.to).length ≤ maxLen) := Lib.hid (by have := busyT_len l h.frm h.to; unfold maxLen; omega)
  have HAP : Hid (apartB h.things (busyT l h.frm h.to) = false) := Lib.hid h4
  have d256 : (n == 256) = false := beq_eq_false_iff_ne.2 (by omega)
  have d256' : ((n : Int) == 256) = false := beq_eq_false_iff_ne.2 (by omega)
  have HMM := Lib.hid hm
  clear h1 h2 h3 h4
  unfold hO at hW
  clear hb0 hl hh hf
  have q0 := BX.out.c0
  have q1 := BX.out.c1
  have q2 := BX.out.c2
  have q3 := BX.out.c3
  go_enter Tryz.func24, Tryz.ntmps24
  go_wp2_with fail
  rw [← hW]
  refine (heldSame_any A n c l W HT.out.reads HT.out.nil HF.out).mono ?_
  rintro e w1 ⟨v, rfl, hon⟩
  have hb := hon.below
  obtain ⟨A1, c1, rfl, hz1, hz2⟩ := hon.form
  rw [HLN.out] at hon ⊢
  clear hz1 hz2
  have HBq := Lib.hid (HB.out.trans (hb.mono HB.out.size))
  clear HB
  have HB := HBq
  clear HBq
  have HTq := Lib.hid (HT.out.next hb)
  clear HT
  have HT := HTq
  clear HTq
  have HHq := Lib.hid (HH.out.next hb)
  clear HH
  have HH := HHq
  clear HHq
  have BXq := Lib.hid (BX.out.next hb)
  clear BX
  have BX := BXq
  clear BXq
  clear hb
  have HO := Lib.hid (show ONH W _ l w1 from hon)
  clear hon
  clear hW
  clear q0 q1 q2 q3
  have q0 := BX.out.c0
  have q1 := BX.out.c1
  have q2 := BX.out.c2
  have q3 := BX.out.c3
  go_wp2_with fail
  refine (heldRight_b HT.out.reads HT.out.nil HF.out R1.out).mono ?_
  rintro e w2 ⟨rfl, hb⟩
  have HBq := Lib.hid (HB.out.trans (hb.mono HB.out.size))
  clear HB
  have HB := HBq
  clear HBq
  have HTq := Lib.hid (HT.out.next hb)
  clear HT
  have HT := HTq
  clear HTq
  have HHq := Lib.hid (HH.out.next hb)
  clear HH
  have HH := HHq
  clear HHq
  have BXq := Lib.hid (BX.out.next hb)
  clear BX
  have BX := BXq
  clear BXq
  have HOq := Lib.hid (HO.out.next hb)
  clear HO
  have HO := HOq
  clear HOq
  clear hb
  clear q0 q1 q2 q3
  have q0 := BX.out.c0
  have q1 := BX.out.c1
  have q2 := BX.out.c2
  have q3 := BX.out.c3
  go_wp2_with fail
  refine (may_any HH.out M1.out).mono ?_
  rintro e w3 ⟨rfl, hb⟩
  have HBq := Lib.hid (HB.out.trans (hb.mono HB.out.size))
  clear HB
  have HB := HBq
  clear HBq
  have HTq := Lib.hid (HT.out.next hb)
  clear HT
  have HT := HTq
  clear HTq
  have HHq := Lib.hid (HH.out.next hb)
  clear HH
  have HH := HHq
  clear HHq
  have BXq := Lib.hid (BX.out.next hb)
  clear BX
  have BX := BXq
  clear BXq
  have HOq := Lib.hid (HO.out.next hb)
  clear HO
  have HO := HOq
  clear HOq
  clear hb
  clear q0 q1 q2 q3
  have q0 := BX.out.c0
  have q1 := BX.out.c1
  have q2 := BX.out.c2
  have q3 := BX.out.c3
  go_wp2_with fail
  refine (hfind_any A n c l h.id _ HT.out.reads (by omega) HIDS.out).mono ?_
  rintro e w4 ⟨⟨K, rfl, hK⟩, hb⟩
  have HK := Lib.hid hK
  have HKN : Hid (K ≤ n) := Lib.hid (by rw [← HLN.out]; exact hK.le)
  rw [here_has HIDS.out hK, HHAS.out]
  clear hK
  have HBq := Lib.hid (HB.out.trans (hb.mono HB.out.size))
  clear HB
  have HB := HBq
  clear HBq
  have HTq := Lib.hid (HT.out.next hb)
  clear HT
  have HT := HTq
  clear HTq
  have HHq := Lib.hid (HH.out.next hb)
  clear HH
  have HH := HHq
  clear HHq
  have BXq := Lib.hid (BX.out.next hb)
  clear BX
  have BX := BXq
  clear BXq
  have HOq := Lib.hid (HO.out.next hb)
  clear HO
  have HO := HOq
  clear HOq
  clear hb
  clear q0 q1 q2 q3
  have q0 := BX.out.c0
  have q1 := BX.out.c1
  have q2 := BX.out.c2
  have q3 := BX.out.c3
  go_wp2
  have HKEEP : Hid (∀ wx, Below w4.drew.heap.size w4.drew wx → wx.cell? ⟨w.heap.size, 1, none⟩ = some (.slice A2 m c2) ∧ wx.cell? ⟨w.heap.size, 2, none⟩ = some (.int .i64 h.frm) ∧ wx.cell? ⟨w.heap.size, 3, none⟩ = some (.int .i64 h.to)) := Lib.hid (fun wx hz' => by
    have hz := (bel_drewH w4).trans (hz'.mono (bel_drewH w4).size)
    exact ⟨keep_cellH BX.out.lt BX.out.c1 hz, keep_cellH BX.out.lt BX.out.c2 hz, keep_cellH BX.out.lt BX.out.c3 hz⟩)
  have hd := bel_drewH w4
  have HBq := Lib.hid (HB.out.trans (hd.mono HB.out.size))
  clear HB
  have HB := HBq
  clear HBq
  have HTq := Lib.hid (HT.out.next hd)
  clear HT
  have HT := HTq
  clear HTq
  have HHq := Lib.hid (HH.out.next hd)
  clear HH
  have HH := HHq
  clear HHq
  have BXq := Lib.hid (BX.out.next hd)
  clear BX
  have BX := BXq
  clear BXq
  have HOq := Lib.hid (HO.out.next hd)
  clear HO
  have HO := HOq
  clear HOq
  clear hd
  have HY := Lib.hid (Below.refl w4.drew.heap.size w4.drew)
  go_region_held3 (fun w' => w'.cell? ⟨w.heap.size, 1, none⟩ = some (.slice A2 m c2) ∧ w'.cell? ⟨w.heap.size, 2, none⟩ = some (.int .i64 h.frm) ∧ w'.cell? ⟨w.heap.size, 3, none⟩ = some (.int .i64 h.to))
    (first | exact HKEEP.out _ (Below.refl _ _) | exact HKEEP.out _ HY.out | go_keep | fail)
    (first | (go_at_call 46; (with_reducible refine (busy_any A n c l h.frm h.to w4.drew HT.out.reads HF.out R1.out).mono ?_); rintro e w5 ⟨⟨Ab, cb, rfl, hrb, _, _⟩, hb⟩; have HY := Lib.hid (HY.out.trans (hb.mono HY.out.size)); have HB := Lib.hid (HB.out.trans (hb.mono HB.out.size)); have HT := Lib.hid (HT.out.next hb); have HH := Lib.hid (HH.out.next hb); have BX := Lib.hid (BX.out.next hb); have HO := Lib.hid (HO.out.next hb); have HBS := Lib.hid hrb; clear hb) | (go_at_call 21; (with_reducible refine (s_apart HH.out.reads HBS.out HH.out.few HBN.out HAP.out).mono ?_); rintro e w6 ⟨rfl, hb⟩; have HY := Lib.hid (HY.out.trans (hb.mono HY.out.size)); have HB := Lib.hid (HB.out.trans (hb.mono HB.out.size)); have HT := Lib.hid (HT.out.next hb); have HH := Lib.hid (HH.out.next hb); have BX := Lib.hid (BX.out.next hb); have HO := Lib.hid (HO.out.next hb); have HBS := Lib.hid (HBS.out.next hb); clear hb) | fail)
  clear HKEEP HY
  clear q0 q1 q2 q3
  go_wp2
  go_ret2
  exact onh_post HO.out HB.out

set_option maxRecDepth 100000 in
set_option maxHeartbeats 8000000 in
theorem heldAdd_5 (A : Option Addr) (n c : Nat) (l : Tb) (A2 : Option Addr) (m c2 : Nat) (h : Hd) (w : World) (hl : TAsk w A n c l) (hf : FewT l) (hh : HAsk w A2 m c2 h) (hm : m ≤ 100) (h1 : rightT l = true) (h2 : mayH h = true) (h3 : hasT l h.id = false) (h4 : apartB h.things (busyT l h.frm h.to) = true) :
    Calls Tryz.prog 24 #[.slice A n c, .agg #[.int .i64 h.id, .slice A2 m c2, .int .i64 h.frm, .int .i64 h.to]] w (TEPost (insT l h) 0 w) := by
  obtain ⟨W, hW⟩ : ∃ W, W = w.alloc (hO h A2 m c2) := ⟨_, rfl⟩
  have BX : Hid (BoxH W w.heap.size h A2 m c2) := Lib.hid (by rw [hW]; exact boxH_new w h A2 m c2)
  have hb0 : Below w.heap.size w W := by rw [hW]; exact (Below.refl _ _).alloc (Nat.le_refl _) _
  have HB := Lib.hid hb0
  have HB0 := Lib.hid hb0
  have HT := Lib.hid (hl.next hb0)
  have HH := Lib.hid (hh.next hb0)
  have HF := Lib.hid hf
  have HLN := Lib.hid hl.reads.len
  have hn100 : n ≤ 100 := by rw [← hl.reads.len]; exact hf.1
  have R1 := Lib.hid h1
  have M1 := Lib.hid h2
  have HHAS := Lib.hid h3
  have HIDS := Lib.hid (rightT_is.1 h1).ids
  have HBN : Hid ((busyT l h.frm h.to).length ≤ maxLen) := Lib.hid (by have := busyT_len l h.frm h.to; unfold maxLen; omega)
  have HAP : Hid (apartB h.things (busyT l h.frm h.to) = true) := Lib.hid h4
  have d256 : (n == 256) = false := beq_eq_false_iff_ne.2 (by omega)
  have d256' : ((n : Int) == 256) = false := beq_eq_false_iff_ne.2 (by omega)
  have HMM := Lib.hid hm
  clear h1 h2 h3 h4
  unfold hO at hW
  clear hb0 hl hh hf
  have q0 := BX.out.c0
  have q1 := BX.out.c1
  have q2 := BX.out.c2
  have q3 := BX.out.c3
  go_enter Tryz.func24, Tryz.ntmps24
  go_wp2_with fail
  rw [← hW]
  refine (heldSame_any A n c l W HT.out.reads HT.out.nil HF.out).mono ?_
  rintro e w1 ⟨v, rfl, hon⟩
  have hb := hon.below
  obtain ⟨A1, c1, rfl, hz1, hz2⟩ := hon.form
  rw [HLN.out] at hon ⊢
  clear hz1 hz2
  have HBq := Lib.hid (HB.out.trans (hb.mono HB.out.size))
  clear HB
  have HB := HBq
  clear HBq
  have HTq := Lib.hid (HT.out.next hb)
  clear HT
  have HT := HTq
  clear HTq
  have HHq := Lib.hid (HH.out.next hb)
  clear HH
  have HH := HHq
  clear HHq
  have BXq := Lib.hid (BX.out.next hb)
  clear BX
  have BX := BXq
  clear BXq
  clear hb
  have HO := Lib.hid (show ONH W _ l w1 from hon)
  clear hon
  clear hW
  clear q0 q1 q2 q3
  have q0 := BX.out.c0
  have q1 := BX.out.c1
  have q2 := BX.out.c2
  have q3 := BX.out.c3
  go_wp2_with fail
  refine (heldRight_b HT.out.reads HT.out.nil HF.out R1.out).mono ?_
  rintro e w2 ⟨rfl, hb⟩
  have HBq := Lib.hid (HB.out.trans (hb.mono HB.out.size))
  clear HB
  have HB := HBq
  clear HBq
  have HTq := Lib.hid (HT.out.next hb)
  clear HT
  have HT := HTq
  clear HTq
  have HHq := Lib.hid (HH.out.next hb)
  clear HH
  have HH := HHq
  clear HHq
  have BXq := Lib.hid (BX.out.next hb)
  clear BX
  have BX := BXq
  clear BXq
  have HOq := Lib.hid (HO.out.next hb)
  clear HO
  have HO := HOq
  clear HOq
  clear hb
  clear q0 q1 q2 q3
  have q0 := BX.out.c0
  have q1 := BX.out.c1
  have q2 := BX.out.c2
  have q3 := BX.out.c3
  go_wp2_with fail
  refine (may_any HH.out M1.out).mono ?_
  rintro e w3 ⟨rfl, hb⟩
  have HBq := Lib.hid (HB.out.trans (hb.mono HB.out.size))
  clear HB
  have HB := HBq
  clear HBq
  have HTq := Lib.hid (HT.out.next hb)
  clear HT
  have HT := HTq
  clear HTq
  have HHq := Lib.hid (HH.out.next hb)
  clear HH
  have HH := HHq
  clear HHq
  have BXq := Lib.hid (BX.out.next hb)
  clear BX
  have BX := BXq
  clear BXq
  have HOq := Lib.hid (HO.out.next hb)
  clear HO
  have HO := HOq
  clear HOq
  clear hb
  clear q0 q1 q2 q3
  have q0 := BX.out.c0
  have q1 := BX.out.c1
  have q2 := BX.out.c2
  have q3 := BX.out.c3
  go_wp2_with fail
  refine (hfind_any A n c l h.id _ HT.out.reads (by omega) HIDS.out).mono ?_
  rintro e w4 ⟨⟨K, rfl, hK⟩, hb⟩
  have HK := Lib.hid hK
  have HKN : Hid (K ≤ n) := Lib.hid (by rw [← HLN.out]; exact hK.le)
  rw [here_has HIDS.out hK, HHAS.out]
  clear hK
  have HBq := Lib.hid (HB.out.trans (hb.mono HB.out.size))
  clear HB
  have HB := HBq
  clear HBq
  have HTq := Lib.hid (HT.out.next hb)
  clear HT
  have HT := HTq
  clear HTq
  have HHq := Lib.hid (HH.out.next hb)
  clear HH
  have HH := HHq
  clear HHq
  have BXq := Lib.hid (BX.out.next hb)
  clear BX
  have BX := BXq
  clear BXq
  have HOq := Lib.hid (HO.out.next hb)
  clear HO
  have HO := HOq
  clear HOq
  clear hb
  clear q0 q1 q2 q3
  have q0 := BX.out.c0
  have q1 := BX.out.c1
  have q2 := BX.out.c2
  have q3 := BX.out.c3
  go_wp2
  have HKEEP : Hid (∀ wx, Below w4.drew.heap.size w4.drew wx → wx.cell? ⟨w.heap.size, 1, none⟩ = some (.slice A2 m c2) ∧ wx.cell? ⟨w.heap.size, 2, none⟩ = some (.int .i64 h.frm) ∧ wx.cell? ⟨w.heap.size, 3, none⟩ = some (.int .i64 h.to)) := Lib.hid (fun wx hz' => by
    have hz := (bel_drewH w4).trans (hz'.mono (bel_drewH w4).size)
    exact ⟨keep_cellH BX.out.lt BX.out.c1 hz, keep_cellH BX.out.lt BX.out.c2 hz, keep_cellH BX.out.lt BX.out.c3 hz⟩)
  have hd := bel_drewH w4
  have HBq := Lib.hid (HB.out.trans (hd.mono HB.out.size))
  clear HB
  have HB := HBq
  clear HBq
  have HTq := Lib.hid (HT.out.next hd)
  clear HT
  have HT := HTq
  clear HTq
  have HHq := Lib.hid (HH.out.next hd)
  clear HH
  have HH := HHq
  clear HHq
  have BXq := Lib.hid (BX.out.next hd)
  clear BX
  have BX := BXq
  clear BXq
  have HOq := Lib.hid (HO.out.next hd)
  clear HO
  have HO := HOq
  clear HOq
  clear hd
  have HY := Lib.hid (Below.refl w4.drew.heap.size w4.drew)
  go_region_held3 (fun w' => w'.cell? ⟨w.heap.size, 1, none⟩ = some (.slice A2 m c2) ∧ w'.cell? ⟨w.heap.size, 2, none⟩ = some (.int .i64 h.frm) ∧ w'.cell? ⟨w.heap.size, 3, none⟩ = some (.int .i64 h.to))
    (first | exact HKEEP.out _ (Below.refl _ _) | exact HKEEP.out _ HY.out | go_keep | fail)
    (first | (go_at_call 46; (with_reducible refine (busy_any A n c l h.frm h.to w4.drew HT.out.reads HF.out R1.out).mono ?_); rintro e w5 ⟨⟨Ab, cb, rfl, hrb, _, _⟩, hb⟩; have HY := Lib.hid (HY.out.trans (hb.mono HY.out.size)); have HB := Lib.hid (HB.out.trans (hb.mono HB.out.size)); have HT := Lib.hid (HT.out.next hb); have HH := Lib.hid (HH.out.next hb); have BX := Lib.hid (BX.out.next hb); have HO := Lib.hid (HO.out.next hb); have HBS := Lib.hid hrb; clear hb) | (go_at_call 21; (with_reducible refine (s_apart HH.out.reads HBS.out HH.out.few HBN.out HAP.out).mono ?_); rintro e w6 ⟨rfl, hb⟩; have HY := Lib.hid (HY.out.trans (hb.mono HY.out.size)); have HB := Lib.hid (HB.out.trans (hb.mono HB.out.size)); have HT := Lib.hid (HT.out.next hb); have HH := Lib.hid (HH.out.next hb); have BX := Lib.hid (BX.out.next hb); have HO := Lib.hid (HO.out.next hb); have HBS := Lib.hid (HBS.out.next hb); clear hb) | fail)
  clear HKEEP HY
  clear q0 q1 q2 q3
  have q0 := BX.out.c0
  have q1 := BX.out.c1
  have q2 := BX.out.c2
  have q3 := BX.out.c3
  go_wp2_with fail
  refine (own_any A2 m c2 h _ HH.out (by omega)).mono ?_
  rintro e w7 ⟨⟨A5, c5, rfl, hx5, he5⟩, hb⟩
  have hlt5 : ∀ b, (Value.slice A1 n c1).ownBlock = some b → b < _ := fun b hb => (let ⟨_, h1, _⟩ := HO.out; h1.lt b hb).2
  have HE5 : Hid (EH w7 (fun b => b < w7.heap.size ∧ (Value.slice A1 n c1).ownBlock ≠ some b) h _) := Lib.hid (eh_steady.keep he5 (fun _ _ => rfl) (fun b hb => ⟨hb.2, fun e => by have h1 := hlt5 b e; have h2 := hb.1; omega⟩))
  clear hlt5 hx5 he5
  have HBq := Lib.hid (HB.out.trans (hb.mono HB.out.size))
  clear HB
  have HB := HBq
  clear HBq
  have HTq := Lib.hid (HT.out.next hb)
  clear HT
  have HT := HTq
  clear HTq
  have HHq := Lib.hid (HH.out.next hb)
  clear HH
  have HH := HHq
  clear HHq
  have BXq := Lib.hid (BX.out.next hb)
  clear BX
  have BX := BXq
  clear BXq
  have HOq := Lib.hid (HO.out.next hb)
  clear HO
  have HO := HOq
  clear HOq
  have HBSq := Lib.hid (HBS.out.next hb)
  clear HBS
  have HBS := HBSq
  clear HBSq
  clear hb
  clear q0 q1 q2 q3
  have HINS : Hid (l.take K ++ h :: l.drop K = insT l h) := Lib.hid (ins_at HK.out (hasT_no.1 HHAS.out)).symm
  go_wp2_with fail
  refine (insertH_on HO.out (by omega) HLN.out HKN.out HE5.out).mono ?_
  rintro e w8 ⟨v', rfl, hon⟩
  rw [HINS.out] at hon
  obtain ⟨A7, c7, rfl, hz1, hz2⟩ := ON.form hon
  have HON := Lib.hid hon
  have HBF := Lib.hid (HB0.out.trans ((ON.below hon).mono HB0.out.size))
  clear hon hz1 hz2
  go_wp2
  go_ret2
  exact onh_post HON.out HBF.out

theorem heldAdd_any (A : Option Addr) (n c : Nat) (l : Tb) (A2 : Option Addr) (m c2 : Nat) (h : Hd) (w : World) (hl : TAsk w A n c l) (hf : FewT l) (hh : HAsk w A2 m c2 h) (hm : m ≤ 100) : Calls Tryz.prog 24 #[.slice A n c, .agg #[.int .i64 h.id, .slice A2 m c2, .int .i64 h.frm, .int .i64 h.to]] w (TEPost (addT l h) (addE l h) w) := by
  unfold addT
  cases h1 : rightT l with
  | false =>
    have e : addE l h = 1 := by unfold addE; rw [h1]; rfl
    rw [e, if_neg (by omega)]
    exact heldAdd_1 A n c l A2 m c2 h w hl hf hh hm h1
  | true =>
    cases h2 : mayH h with
    | false =>
      have e : addE l h = 1 := by unfold addE; rw [h1, h2]; rfl
      rw [e, if_neg (by omega)]
      exact heldAdd_2 A n c l A2 m c2 h w hl hf hh hm h1 h2
    | true =>
      have hmay : MayH h := of_decide_eq_true h2
      cases h3 : hasT l h.id with
      | true =>
        have e : addE l h = 7 := by unfold addE; rw [h1, h2, if_neg (by simp), if_pos h3]
        rw [e, if_neg (by omega)]
        exact heldAdd_3 A n c l A2 m c2 h w hl hf hh hm h1 h2 h3
      | false =>
        have hn : ¬ 256 ≤ l.length := by have := hf.1; omega
        cases h4 : apartB h.things (busyT l h.frm h.to) with
        | false =>
          have hc : (l.any fun x => clashH x h) = true := by
            refine Classical.byContradiction fun hc => ?_
            rw [Bool.not_eq_true, List.any_eq_false] at hc
            have := (busy_apart h1 hmay).1 (fun x hx => by simpa using hc x hx)
            rw [apart_comm, h4] at this
            cases this
          have e : addE l h = 5 := by unfold addE; rw [h1, h2, if_neg (by simp), if_neg (by rw [h3]; simp), if_pos (.inr hc)]
          rw [e, if_neg (by omega)]
          exact heldAdd_4 A n c l A2 m c2 h w hl hf hh hm h1 h2 h3 h4
        | true =>
          have hc := (busy_apart h1 hmay).2 (by rw [apart_comm]; exact h4)
          have e : addE l h = 0 := add_ok.2 ⟨rightT_is.1 h1, hmay, hasT_no.1 h3, by omega, hc⟩
          rw [e, if_pos rfl]
          exact heldAdd_5 A n c l A2 m c2 h w hl hf hh hm h1 h2 h3 h4

end Go.Proofs.YtpoalgkgomljmaaGreatDoor

namespace Go.Proofs
open Go.Shelf
open Go.RowKit
def Tryz.sortTimes_ren : Go.Shelf.Ren := ⟨fun | 5 => 38 | 7 => 68 | 8 => 69 | 10 => 94 | 11 => 95 | 12 => 96 | 13 => 97 | 14 => 98 | 15 => 99 | 16 => 100 | 17 => 101 | 18 => 102 | 19 => 103 | 20 => 104 | 30 => 122 | 31 => 123 | 32 => 124 | 33 => 125 | 34 => 126 | 35 => 127 | 40 => 133 | n => n, fun | 0 => 0 | 3 => 3 | 4 => 4 | 5 => 5 | 9 => 9 | 22 => 44 | 23 => 44 | 25 => 2 | 32 => 89 | 35 => 111 | 36 => 112 | 41 => 76 | 44 => 119 | 46 => 68 | 53 => 136 | 57 => 140 | 63 => 148 | 64 => 149 | n => n, fun | n => n⟩
theorem Tryz.sortTimes : Go.Proofs.SlLaysM.n5 Tryz.prog Tryz.sortTimes_ren := {
  mixed := by kernel_rfl
  f5 := ⟨Tryz.f38.name, by decide, Tryz.func38.trans (congrArg some (by kernel_rfl))⟩
  f7 := ⟨Tryz.f68.name, by decide, Tryz.func68.trans (congrArg some (by kernel_rfl))⟩
  f8 := Tryz.func69.trans (congrArg some (by kernel_rfl))
  f10 := ⟨Tryz.f94.name, by decide, Tryz.func94.trans (congrArg some (by kernel_rfl))⟩
  f11 := ⟨Tryz.f95.name, by decide, Tryz.func95.trans (congrArg some (by kernel_rfl))⟩
  f12 := ⟨Tryz.f96.name, by decide, Tryz.func96.trans (congrArg some (by kernel_rfl))⟩
  f13 := ⟨Tryz.f97.name, by decide, Tryz.func97.trans (congrArg some (by kernel_rfl))⟩
  f14 := ⟨Tryz.f98.name, by decide, Tryz.func98.trans (congrArg some (by kernel_rfl))⟩
  f15 := ⟨Tryz.f99.name, by decide, Tryz.func99.trans (congrArg some (by kernel_rfl))⟩
  f16 := ⟨Tryz.f100.name, by decide, Tryz.func100.trans (congrArg some (by kernel_rfl))⟩
  f17 := ⟨Tryz.f101.name, by decide, Tryz.func101.trans (congrArg some (by kernel_rfl))⟩
  f18 := ⟨Tryz.f102.name, by decide, Tryz.func102.trans (congrArg some (by kernel_rfl))⟩
  f19 := Tryz.func103.trans (congrArg some (by kernel_rfl))
  f20 := Tryz.func104.trans (congrArg some (by kernel_rfl))
  f30 := ⟨Tryz.f122.name, by decide, Tryz.func122.trans (congrArg some (by kernel_rfl))⟩
  f31 := Tryz.func123.trans (congrArg some (by kernel_rfl))
  f32 := Tryz.func124.trans (congrArg some (by kernel_rfl))
  f33 := ⟨Tryz.f125.name, by decide, Tryz.func125.trans (congrArg some (by kernel_rfl))⟩
  f34 := ⟨Tryz.f126.name, by decide, Tryz.func126.trans (congrArg some (by kernel_rfl))⟩
  f35 := ⟨Tryz.f127.name, by decide, Tryz.func127.trans (congrArg some (by kernel_rfl))⟩
  f40 := ⟨Tryz.f133.name, by decide, Tryz.func133.trans (congrArg some (by kernel_rfl))⟩
  t0 := Tryz.underlying0
  a0 := Tryz.isAgg0
  z0 := Tryz.sizeOf0
  v0 := Tryz.zeroValue0
  t3 := Tryz.underlying3
  a3 := Tryz.isAgg3
  z3 := Tryz.sizeOf3
  v3 := Tryz.zeroValue3
  t4 := Tryz.underlying4
  a4 := Tryz.isAgg4
  z4 := Tryz.sizeOf4
  v4 := Tryz.zeroValue4
  t5 := Tryz.underlying5
  a5 := Tryz.isAgg5
  z5 := Tryz.sizeOf5
  v5 := Tryz.zeroValue5
  t9 := Tryz.underlying9
  a9 := Tryz.isAgg9
  z9 := Tryz.sizeOf9
  v9 := Tryz.zeroValue9
  t22 := Tryz.underlying44
  a22 := Tryz.isAgg44
  z22 := Tryz.sizeOf44
  v22 := Tryz.zeroValue44
  t23 := Tryz.underlying44
  a23 := Tryz.isAgg44
  z23 := Tryz.sizeOf44
  v23 := Tryz.zeroValue44
  t25 := Tryz.underlying2
  a25 := Tryz.isAgg2
  z25 := Tryz.sizeOf2
  v25 := Tryz.zeroValue2
  t32 := Tryz.underlying89
  a32 := Tryz.isAgg89
  z32 := Tryz.sizeOf89
  v32 := Tryz.zeroValue89
  t35 := Tryz.underlying111
  a35 := Tryz.isAgg111
  z35 := Tryz.sizeOf111
  v35 := Tryz.zeroValue111
  t36 := Tryz.underlying112
  a36 := Tryz.isAgg112
  z36 := Tryz.sizeOf112
  v36 := Tryz.zeroValue112
  t41 := Tryz.underlying76
  a41 := Tryz.isAgg76
  z41 := Tryz.sizeOf76
  v41 := Tryz.zeroValue76
  t44 := Tryz.underlying119
  a44 := Tryz.isAgg119
  z44 := Tryz.sizeOf119
  v44 := Tryz.zeroValue119
  t46 := Tryz.underlying68
  a46 := Tryz.isAgg68
  z46 := Tryz.sizeOf68
  v46 := Tryz.zeroValue68
  t53 := Tryz.underlying136
  a53 := Tryz.isAgg136
  z53 := Tryz.sizeOf136
  v53 := Tryz.zeroValue136
  t57 := Tryz.underlying140
  a57 := Tryz.isAgg140
  z57 := Tryz.sizeOf140
  v57 := Tryz.zeroValue140
  t63 := Tryz.underlying148
  a63 := Tryz.isAgg148
  z63 := Tryz.sizeOf148
  v63 := Tryz.zeroValue148
  t64 := Tryz.underlying149
  a64 := Tryz.isAgg149
  z64 := Tryz.sizeOf149
  v64 := Tryz.zeroValue149
}
def Tryz.compactTimes_ren : Go.Shelf.Ren := ⟨fun | 43 => 39 | n => n, fun | 0 => 0 | 3 => 3 | 4 => 4 | 22 => 44 | 23 => 2 | n => n, fun | n => n⟩
theorem Tryz.compactTimes : Go.Proofs.SlLaysE.n43 Tryz.prog Tryz.compactTimes_ren := {
  mixed := by kernel_rfl
  f43 := ⟨Tryz.f39.name, by decide, Tryz.func39.trans (congrArg some (by kernel_rfl))⟩
  t0 := Tryz.underlying0
  a0 := Tryz.isAgg0
  z0 := Tryz.sizeOf0
  v0 := Tryz.zeroValue0
  t3 := Tryz.underlying3
  a3 := Tryz.isAgg3
  z3 := Tryz.sizeOf3
  v3 := Tryz.zeroValue3
  t4 := Tryz.underlying4
  a4 := Tryz.isAgg4
  z4 := Tryz.sizeOf4
  v4 := Tryz.zeroValue4
  t22 := Tryz.underlying44
  a22 := Tryz.isAgg44
  z22 := Tryz.sizeOf44
  v22 := Tryz.zeroValue44
  a23 := Tryz.isAgg2
  z23 := Tryz.sizeOf2
}

end Go.Proofs

namespace Go.Proofs.YtpoalgkgomljmaaGreatDoor
open Go.RowKit Go.Sort

theorem int64_infoH : (Tryz.prog.info? 2).map (fun i => (i.zero, i.size, i.bytes)) = some (some (.int .i64 0), 1, 8) := by kernel_rfl
theorem ends_take_yes {l : Tb} {k : Nat} {z : Int} (hk : k < l.length) (h : z < (l.getD k hd0).to) : ((l.take (k + 1)).map Hd.to).filter (fun t => decide (z < t)) = ((l.take k).map Hd.to).filter (fun t => decide (z < t)) ++ [(l.getD k hd0).to] := by
  rw [getD_at hk] at h ⊢
  rw [List.take_succ_eq_append_getElem hk, List.map_append, List.filter_append]
  simp [h]
theorem ends_take_no {l : Tb} {k : Nat} {z : Int} (hk : k < l.length) (h : ¬ z < (l.getD k hd0).to) : ((l.take (k + 1)).map Hd.to).filter (fun t => decide (z < t)) = ((l.take k).map Hd.to).filter (fun t => decide (z < t)) := by
  rw [getD_at hk] at h
  rw [List.take_succ_eq_append_getElem hk, List.map_append, List.filter_append]
  simp [h]
theorem put_below {B g q : Nat} {w0 w : World} {d : Array Int} (h : Below B w0 w) (hB : B ≤ g) : Below B w0 (putRow (Value.int .i64) (Sort.ahead w q) g 0 d) := by
  refine h.trans ⟨rfl, rfl, rfl, by simp [putRow, mapBlock], fun b hb => ?_⟩
  show ((Sort.ahead w q).heap.modify g (onCells (putCells (Value.int .i64) 0 d)))[b]? = _
  rw [Array.getElem?_modify, if_neg (by omega)]
  rfl
theorem grow_below {B : Nat} {w0 w : World} {os : Array Obj} (h : Below B w0 w) (hB : B ≤ w.heap.size) : Below B w0 (grow w os) :=
  h.trans ⟨rfl, rfl, rfl, by simp, fun b hb => heap_grow_old w os (by omega)⟩

set_option maxRecDepth 100000 in
set_option maxHeartbeats 2000000 in
/-- too short to hold a time twice -/
theorem compact_short (A : Option Addr) (n c : Nat) (w : World) (hn : n < 2) :
    Calls Tryz.prog 39 #[.slice A n c] w fun e w' => e = .returned (.slice A n c) ∧ w' = w := by
  have d0 : decide (n < 2) = true := decide_eq_true hn
  go_enter Tryz.func39, Tryz.ntmps39
  go_wp2
  go_ret
  exact ⟨rfl, rfl⟩
/-- sorted in place -/
theorem sortTimes_any (A : Option Addr) (n c : Nat) (L : List Int) (w wr : World) (hO : ON EI 1 2 w (.slice A n c) L wr) (hln : L.length = n) (hn : n ≤ 1000) :
    Calls Tryz.prog 38 #[.slice A n c] wr fun e w' => e = .returned (.tuple #[]) ∧ Below w.heap.size w w' ∧ (n = 0 ∨ ∃ g, A = some ⟨g, 0, none⟩ ∧ w.heap.size ≤ g ∧ g < w'.heap.size ∧ Holds (Value.int .i64) w' g 0 (L.mergeSort fun x y => decide (x ≤ y)).toArray) := by
  rcases Nat.eq_zero_or_pos n with h0 | h0
  · subst h0
    have hcon := Go.Proofs.AnyM.slices_Sort_int_none Tryz.sortTimes A c wr
    change Calls Tryz.prog 38 _ _ _ at hcon
    exact hcon.mono fun e w' ⟨h1, h2⟩ => ⟨h1, by rw [h2]; exact hO.below, .inl rfl⟩
  · obtain ⟨h1, h2⟩ := on_own hO
    obtain ⟨g, rfl, hgb, hgl⟩ := hO.head h0
    rw [hln] at h1
    have hH : Holds (Value.int .i64) wr g 0 L.toArray := fun j hj => by
      have hj' : j < L.length := by simpa using hj
      rw [Nat.zero_add, h1.cellAt j (by omega), h1.frozenAt j, List.getElem?_map, List.getElem?_eq_getElem hj', arr_at hj']
      exact ⟨rfl, rfl⟩
    have hcon := Go.Proofs.AnyM.slices_Sort_int Tryz.sortTimes g 0 c L wr hH hgl (by omega)
    change Calls Tryz.prog 38 _ _ _ at hcon
    rw [hln] at hcon
    refine hcon.mono fun e w' ⟨e1, q, os, e2⟩ => ⟨e1, ?_, .inr ⟨g, rfl, hgb, ?_, ?_⟩⟩
    · rw [e2]
      exact grow_below (put_below h2 hgb) (by simp [putRow, mapBlock]; exact h2.size)
    · rw [e2]
      simp [putRow, mapBlock]
      show g < wr.heap.size + _
      omega
    · rw [e2]
      exact holds_grow _ _ _ _ _ _ (by simp [putRow, mapBlock]; exact hgl) (holds_putRow _ _ _ _ L.toArray _ (holds_ahead _ _ _ _ _ _ hH) (by simp))

/-- each once -/
theorem compactTimes_any (g n c : Nat) (S : List Int) (w wr : World) (hb : Below w.heap.size w wr) (hgb : w.heap.size ≤ g) (hgl : g < wr.heap.size) (hH : Holds (Value.int .i64) wr g 0 S.toArray) (hln : S.length = n) (hn : n ≤ 1000) (hc : n ≤ c) :
    Calls Tryz.prog 39 #[.slice (some ⟨g, 0, none⟩) n c] wr (IPost (Lib.compactUpTo S.toArray S.length) w) := by
  have hsz : S.toArray.size = n := by simpa using hln
  have hcon := Go.Proofs.AnyE.slices_Compact Tryz.compactTimes (Value.int .i64) (fun _ => rfl) (Go.Proofs.EqlAt.intD _ _ _) (Go.Proofs.NeqAt.intD _ _ _) 0 Tryz.zeroValue2 g 0 c S.toArray wr hH (by omega) (by omega)
  change Calls Tryz.prog 39 _ _ _ at hcon
  rw [hsz] at hcon
  rw [hln]
  obtain ⟨L, hL⟩ : ∃ L, Lib.compactUpTo S.toArray n = L := ⟨_, rfl⟩
  have hLn : L.length ≤ n := by
    rw [← hL]
    unfold Lib.compactUpTo
    rw [List.length_map]
    have := List.length_filter_le (Lib.keeps S.toArray) (List.range n)
    rwa [List.length_range] at this
  rw [hL] at hcon ⊢
  refine hcon.mono fun e w' ⟨e1, q, e2⟩ => ?_
  have hP : Holds (Value.int .i64) w' g 0 (L ++ List.replicate (n - L.length) 0).toArray := by
    rw [e2]
    exact holds_putRow _ _ _ _ S.toArray _ (holds_ahead _ _ _ _ _ _ hH) (by simp; omega)
  have hgl' : g < w'.heap.size := by rw [e2]; simp [putRow, mapBlock]; exact hgl
  rw [e1]
  refine ipost_mk ⟨rfl, fun h0 => ⟨g, 0, rfl, hgl', fun j hj => ?_⟩⟩ (fun e => by cases e) (by omega) (by rw [e2]; exact put_below hb hgb)
  have h1 := (hP j (by simp; omega)).1
  rw [h1, arr_at (by simp; omega), List.getElem_append_left hj, List.getD, List.getElem?_eq_getElem hj]
  rfl


end Go.Proofs.YtpoalgkgomljmaaGreatDoor

namespace Go.Proofs.YtpoalgkgomljmaaGreatDoor
open Go.RowKit

set_option maxRecDepth 100000 in
set_option maxHeartbeats 8000000 in
theorem slotTimes_any (HD : HeldOk) (A : Option Addr) (n c : Nat) (l : Tb) (t : Int) (w : World) (hl : TAsk w A n c l) (hf : FewT l) :
    Calls Tryz.prog 35 #[.slice A n c, .int .i64 t] w (IPost (ticksS l t) w) := by
  obtain ⟨i0, hi0, hz0, hz1, hz2⟩ := info_parts int64_infoH
  have hba : Below w.heap.size w (w.alloc (.cells #[.int .i64 t] 2)) := (Below.refl _ _).alloc (Nat.le_refl _) _
  have TA := Lib.hid (hl.next hba)
  have HF := Lib.hid hf
  have HOW : Hid (World.ownsRow (w.alloc (.cells #[.int .i64 t] 2)) w.heap.size 2 1 (.slice (some ⟨w.heap.size, 0, none⟩) 1 1) 1 [.int .i64 t]) := Lib.hid ⟨rfl, .inr ⟨w.heap.size, 1, #[.int .i64 t], rfl, Nat.le_refl _, heap_alloc_new w _, Nat.le_refl _, by decide, rfl, rfl⟩⟩
  have HB := Lib.hid hba
  obtain ⟨xs, hxs⟩ : ∃ xs, endsT l t = xs := ⟨_, rfl⟩
  have HEL : Hid (xs.length ≤ 1000) := Lib.hid (by rw [← hxs]; have := ends_len l t; have := hf.1; omega)
  have HT5 : ticksS l t = t :: xs := by unfold ticksS; rw [hxs]
  rw [HT5]
  have HXS := Lib.hid hxs
  clear hl hf hba hxs HT5
  go_enter Tryz.func35, Tryz.ntmps35
  go_wp2_with fail
  refine (h10_ends HD TA.out HF.out HXS.out).mono ?_
  rintro e w2 ⟨⟨A5, c5, rfl, hr5, hn5, hc5⟩, hb⟩
  have HO2 : Hid (ON EI 1 2 w (.slice (some ⟨w.heap.size, 0, none⟩) 1 1) [t] w2) := Lib.hid ((own_on HOW.out HB.out).next ei_steady hb)
  have HR5 := Lib.hid hr5
  have HN5 := Lib.hid hn5
  clear hr5 hn5 hc5 hb HOW
  obtain ⟨L, hL⟩ : ∃ L, xs.length = L := ⟨_, rfl⟩
  have HLL := Lib.hid hL
  have hl1 : L ≤ 1000 := by rw [← hL]; exact HEL.out
  rw [hL] at HR5 ⊢
  clear hL HEL
  have HOW := Lib.hid (on_own HO2.out)
  go_wp2_with (at_builtin; refine wpList_append_RI _ rfl (.tmp 6) (.tmp 9) 44 rfl w.heap.size 2 i0 (.int .i64 0) 8 Tryz.underlying44 hi0 hz0 hz1 hz2 rfl (.slice (some ⟨w.heap.size, 0, none⟩) 1 1) 1 [.int .i64 t] rfl HOW.out.1 _ A5 L c5 xs rfl HR5.out HN5.out (by unfold maxLen; omega) (by omega) HOW.out.2.size ?_; intro v' w4 hown hgrow; refine Hid.out ?_)
  refine Lib.hid ?_
  have HP : Hid (IPost (t :: xs) w (.returned v') w4) := Lib.hid (ON.ipost (own_on (by
    have h := hown
    rw [← HLL.out, Nat.add_comm] at h
    exact h) (HOW.out.2.grown hgrow HOW.out.2.size (by intro k hk; have hk' : w.heap.size = k := (by simpa [Value.ownBlock] using hk); omega))))
  clear hown hgrow HOW HO2 HR5 HN5
  go_wp2
  go_ret
  exact HP.out

end Go.Proofs.YtpoalgkgomljmaaGreatDoor

namespace Go.Proofs.YtpoalgkgomljmaaGreatDoor
open Go.RowKit

theorem ticks_i64 {l : Tb} {t : Int} (hr : rightT l = true) (ht : I64 t) : ∀ x ∈ ticksS l t, I64 x := fun x hx => by
  unfold ticksS at hx
  rcases List.mem_cons.1 hx with e | e
  · rw [e]; exact ht
  · obtain ⟨_, y, hy, e2⟩ := (mem_endsT hr).1 e
    have := (rightT_is.1 hr).may y hy
    have h1 := this.2.2
    unfold I64; omega
set_option maxRecDepth 100000 in
set_option maxHeartbeats 8000000 in
theorem slotFirst_w (HD : HeldOk) {A A2 A3 : Option Addr} {n c n2 c2 n3 c3 : Nat} {g : Gr} {use : List Int} {l : Tb} {s : Sp} {t u : Int} {w : World} (hg : GAsk w A n c g) (hu : LAsk w A2 n2 c2 use) (hl : TAsk w A3 n3 c3 l) (hf : FewT l) (hs : SAsk s) (ht : I64 t) (hv : I64 u) (hG : Glob w) (hr : rightT l = false) : Calls Tryz.prog 11 #[.slice A n c, .slice A2 n2 c2, .slice A3 n3 c3, .agg #[.int .i64 s.nodes, .int .i64 s.cores, .int .i64 s.gpus, .string s.tag, .bool s.whole, .int .i64 s.long, .int .i64 s.prio], .int .i64 t, .int .i64 u] w (FTPost 0 [] false w) := by
  have hba : Below w.heap.size w (w.alloc (.cells #[.int .i64 s.nodes, .int .i64 s.cores, .int .i64 s.gpus, .string s.tag, .bool s.whole, .int .i64 s.long, .int .i64 s.prio] 26)) := (Below.refl _ _).alloc (Nat.le_refl _) _
  have HB := Lib.hid hba
  have HG := Lib.hid (hG.next hba)
  have GA := Lib.hid (hg.next hba)
  have UA := Lib.hid (hu.next hba)
  have TA := Lib.hid (hl.next hba)
  have BS : Hid (BoxS (w.alloc (.cells #[.int .i64 s.nodes, .int .i64 s.cores, .int .i64 s.gpus, .string s.tag, .bool s.whole, .int .i64 s.long, .int .i64 s.prio] 26)) w.heap.size s) := Lib.hid (box_new w s)
  have HF := Lib.hid hf
  have HS := Lib.hid hs
  have HV := Lib.hid hv
  have HR := Lib.hid hr
  have _u := ht
  clear _u hba hG hg hu hl hf hs ht hv hr
  go_enter Tryz.func11, Tryz.ntmps11
  go_wp2_with fail
  refine (h10_right HD TA.out HF.out HR.out).mono ?_
  rintro e w1 ⟨rfl, hb⟩
  have HBq := Lib.hid (HB.out.trans (hb.mono HB.out.size))
  clear HB
  have HB := HBq
  clear HBq
  have HGq := Lib.hid (HG.out.next hb)
  clear HG
  have HG := HGq
  clear HGq
  have GAq := Lib.hid (GA.out.next hb)
  clear GA
  have GA := GAq
  clear GAq
  have UAq := Lib.hid (UA.out.next hb)
  clear UA
  have UA := UAq
  clear UAq
  have TAq := Lib.hid (TA.out.next hb)
  clear TA
  have TA := TAq
  clear TAq
  have BSq := Lib.hid (BS.out.next hb)
  clear BS
  have BS := BSq
  clear BSq
  clear hb
  go_wp2
  go_ret3
  exact ⟨⟨none, 0, rfl, RI.nil, fun _ => rfl, Nat.le_refl _⟩, HB.out⟩
set_option maxRecDepth 100000 in
set_option maxHeartbeats 8000000 in
theorem slotFirst_y (HD : HeldOk) (HM : MatchOk) (HSP : SpecOk) {A A2 A3 : Option Addr} {n c n2 c2 n3 c3 : Nat} {g : Gr} {use : List Int} {l : Tb} {s : Sp} {t u : Int} {w : World} (hg : GAsk w A n c g) (hu : LAsk w A2 n2 c2 use) (hl : TAsk w A3 n3 c3 l) (hf : FewT l) (hs : SAsk s) (ht : I64 t) (hv : I64 u) (hG : Glob w) (hr : rightT l = true) : Calls Tryz.prog 11 #[.slice A n c, .slice A2 n2 c2, .slice A3 n3 c3, .agg #[.int .i64 s.nodes, .int .i64 s.cores, .int .i64 s.gpus, .string s.tag, .bool s.whole, .int .i64 s.long, .int .i64 s.prio], .int .i64 t, .int .i64 u] w (FTPost (firstAtS g use l s t u) (firstLS g use l s t u) (firstBS g use l s t u) w) := by
  have hba : Below w.heap.size w (w.alloc (.cells #[.int .i64 s.nodes, .int .i64 s.cores, .int .i64 s.gpus, .string s.tag, .bool s.whole, .int .i64 s.long, .int .i64 s.prio] 26)) := (Below.refl _ _).alloc (Nat.le_refl _) _
  have HB := Lib.hid hba
  have HG := Lib.hid (hG.next hba)
  have GA := Lib.hid (hg.next hba)
  have UA := Lib.hid (hu.next hba)
  have TA := Lib.hid (hl.next hba)
  have BS : Hid (BoxS (w.alloc (.cells #[.int .i64 s.nodes, .int .i64 s.cores, .int .i64 s.gpus, .string s.tag, .bool s.whole, .int .i64 s.long, .int .i64 s.prio] 26)) w.heap.size s) := Lib.hid (box_new w s)
  have HF := Lib.hid hf
  have HS := Lib.hid hs
  have HV := Lib.hid hv
  have HR := Lib.hid hr
  obtain ⟨ts, hts⟩ : ∃ x, ticksS l t = x := ⟨_, rfl⟩
  have HTS := Lib.hid hts
  have HTI : Hid (∀ x ∈ ts, I64 x) := Lib.hid (by rw [← hts]; exact ticks_i64 hr ht)
  have hlen : ts.length ≤ 101 := by rw [← hts]; have := @ticks_len l t; have := hf.1; omega
  have HFI : Hid (∀ k, k < ts.length → (∀ j, j < k → ¬ FitsS g use l s u (ts.getD j 0)) → FitsS g use l s u (ts.getD k 0) → firstS g use l s t u = some (ts.getD k 0)) := Lib.hid (by rw [← hts]; exact fun k hk h1 h2 => tick_first hr hk h1 h2)
  have HFN : Hid ((∀ j, j < ts.length → ¬ FitsS g use l s u (ts.getD j 0)) → firstS g use l s t u = none) := Lib.hid (by rw [← hts]; exact fun h => tick_none hr h)
  obtain ⟨r1, hr1⟩ : ∃ r, firstAtS g use l s t u = r := ⟨_, rfl⟩
  obtain ⟨r2, hr2⟩ : ∃ r, firstLS g use l s t u = r := ⟨_, rfl⟩
  obtain ⟨r3, hr3⟩ : ∃ r, firstBS g use l s t u = r := ⟨_, rfl⟩
  have HRES := Lib.hid (show firstAtS g use l s t u = r1 ∧ firstLS g use l s t u = r2 ∧ firstBS g use l s t u = r3 from ⟨hr1, hr2, hr3⟩)
  rw [hr1, hr2, hr3]
  clear hba hG hg hu hl hf hs ht hv hr hts hr1 hr2 hr3
  go_enter Tryz.func11, Tryz.ntmps11
  go_wp2_with fail
  refine (h10_right HD TA.out HF.out HR.out).mono ?_
  rintro e w1 ⟨rfl, hb⟩
  have HBq := Lib.hid (HB.out.trans (hb.mono HB.out.size))
  clear HB
  have HB := HBq
  clear HBq
  have HGq := Lib.hid (HG.out.next hb)
  clear HG
  have HG := HGq
  clear HGq
  have GAq := Lib.hid (GA.out.next hb)
  clear GA
  have GA := GAq
  clear GAq
  have UAq := Lib.hid (UA.out.next hb)
  clear UA
  have UA := UAq
  clear UAq
  have TAq := Lib.hid (TA.out.next hb)
  clear TA
  have TA := TAq
  clear TAq
  have BSq := Lib.hid (BS.out.next hb)
  clear BS
  have BS := BSq
  clear BSq
  clear hb
  go_wp2_with fail
  refine (calls_ipost (slotTimes_any HD _ _ _ _ _ _ TA.out HF.out) HTS.out).mono ?_
  rintro e w2 ⟨⟨A5, c5, rfl, hr5, _, _⟩, hb⟩
  have HBq := Lib.hid (HB.out.trans (hb.mono HB.out.size))
  clear HB
  have HB := HBq
  clear HBq
  have HGq := Lib.hid (HG.out.next hb)
  clear HG
  have HG := HGq
  clear HGq
  have GAq := Lib.hid (GA.out.next hb)
  clear GA
  have GA := GAq
  clear GAq
  have UAq := Lib.hid (UA.out.next hb)
  clear UA
  have UA := UAq
  clear UAq
  have TAq := Lib.hid (TA.out.next hb)
  clear TA
  have TA := TAq
  clear TAq
  have BSq := Lib.hid (BS.out.next hb)
  clear BS
  have BS := BSq
  clear BSq
  clear hb
  have TS := Lib.hid hr5
  clear hr5
  obtain ⟨L, hL⟩ : ∃ L, ts.length = L := ⟨_, rfl⟩
  have HLL := Lib.hid hL
  rw [hL] at TS hlen ⊢
  clear hL
  go_wp2_with fail
  go_loopw [26] (fun iv wr => ∃ k : Nat, k ≤ L ∧ iv = .int .i64 k ∧ (∀ j, j < k → ¬ FitsS g use l s u (ts.getD j 0)) ∧ Below w2.heap.size w2 wr) (fun iv _ => L - (intOf iv).toNat)
  case atStart => exact ⟨0, Nat.zero_le _, rfl, fun j hj => by omega, Below.refl _ _⟩
  case round =>
    obtain ⟨k, hk, rfl, hno, hbel⟩ := hrel
    have HNO := Lib.hid hno
    have HB4 := Lib.hid (HB.out.trans (hbel.mono HB.out.size))
    have HG4 := Lib.hid (HG.out.next hbel)
    have GA4 := Lib.hid (GA.out.next hbel)
    have UA4 := Lib.hid (UA.out.next hbel)
    have TA4 := Lib.hid (TA.out.next hbel)
    have BS4 := Lib.hid (BS.out.next hbel)
    have TS4 := Lib.hid (TS.out.next hbel)
    have HBL := Lib.hid hbel
    clear hno hbel
    by_cases hlt : k < L
    · obtain ⟨bt, offt, hA5, hbt, ck⟩ := TS4.out.one hlt
      subst hA5
      obtain ⟨x, hx⟩ : ∃ x, ts.getD k 0 = x := ⟨_, rfl⟩
      have HXI : Hid (I64 x) := Lib.hid (HTI.out x (by
        have h1 : k < ts.length := by rw [HLL.out]; exact hlt
        rw [← hx, List.getD, List.getElem?_eq_getElem h1]; exact List.getElem_mem h1))
      have HX := Lib.hid hx
      rw [hx] at ck
      clear hx
      have HC := Lib.hid (slotAt_any (t := x) (u := u) HD HM HSP GA4.out UA4.out TA4.out HF.out HS.out HXI.out HV.out HG4.out HR.out)
      cases hf : decide (FitsS g use l s u x) with
      | true =>
        rw [hf] at HC
        have HZ : Hid (r1 = x ∧ r2 = gotS g use l s u x ∧ r3 = true) := Lib.hid (by
          have h1 := HFI.out k (by rw [HLL.out]; exact hlt) HNO.out (by rw [HX.out]; exact of_decide_eq_true hf)
          rw [HX.out] at h1
          have h2 := first_some h1
          rw [HRES.out.1, HRES.out.2.1, HRES.out.2.2] at h2
          exact h2)
        obtain ⟨gl, hgl⟩ : ∃ y, gotS g use l s u x = y := ⟨_, rfl⟩
        rw [hgl] at HC HZ
        clear hf hgl
        have q0 := BS4.out.c0
        have q1 := BS4.out.c1
        have q2 := BS4.out.c2
        have q3 := BS4.out.c3
        have q4 := BS4.out.c4
        have q5 := BS4.out.c5
        have q6 := BS4.out.c6
        go_wp2_with fail
        refine HC.out.mono ?_
        rintro e w7 ⟨⟨A7, c7, rfl, hr7, hn7, hc7⟩, hb⟩
        have R7 := Lib.hid hr7
        have N7 := Lib.hid hn7
        have C7 := Lib.hid hc7
        have HBZ := Lib.hid (HB4.out.trans (hb.mono HB4.out.size))
        clear q0 q1 q2 q3 q4 q5 q6
        clear hr7 hn7 hc7 hb ck hbt HC
        go_wp2
        go_ret3
        rw [HZ.out.1, HZ.out.2.1, HZ.out.2.2]
        exact ⟨⟨A7, c7, rfl, R7.out, N7.out, C7.out⟩, HBZ.out⟩
      | false =>
        rw [hf] at HC
        have HN : Hid (∀ j, j < k + 1 → ¬ FitsS g use l s u (ts.getD j 0)) := Lib.hid (fun j hj => by
          by_cases hjk : j = k
          · rw [hjk, HX.out]; exact of_decide_eq_false hf
          · exact HNO.out j (by omega))
        clear hf
        have q0 := BS4.out.c0
        have q1 := BS4.out.c1
        have q2 := BS4.out.c2
        have q3 := BS4.out.c3
        have q4 := BS4.out.c4
        have q5 := BS4.out.c5
        have q6 := BS4.out.c6
        go_wp2_with fail
        refine HC.out.mono ?_
        rintro e w7 ⟨⟨A7, c7, rfl, _, _, _⟩, hb⟩
        have HBZ := Lib.hid (HBL.out.trans (hb.mono HBL.out.size))
        clear q0 q1 q2 q3 q4 q5 q6
        clear hb ck hbt HC
        go_wp2
        go_roundw
        case rel => exact ⟨k + 1, by omega, by go_num, HN.out, HBZ.out⟩
        case measure => simp [intOf] <;> omega
    · have HZ : Hid (r1 = 0 ∧ r2 = [] ∧ r3 = false) := Lib.hid (by
        have h1 := first_none (HFN.out fun j hj => HNO.out j (by rw [HLL.out] at hj; omega))
        rw [HRES.out.1, HRES.out.2.1, HRES.out.2.2] at h1
        exact h1)
      go_wp2
      go_ret3
      rw [HZ.out.1, HZ.out.2.1, HZ.out.2.2]
      exact ⟨⟨none, 0, rfl, RI.nil, fun _ => rfl, Nat.le_refl _⟩, HB4.out⟩
theorem slotFirst_any (HD : HeldOk) (HM : MatchOk) (HSP : SpecOk) {A A2 A3 : Option Addr} {n c n2 c2 n3 c3 : Nat} {g : Gr} {use : List Int} {l : Tb} {s : Sp} {t u : Int} {w : World} (hg : GAsk w A n c g) (hu : LAsk w A2 n2 c2 use) (hl : TAsk w A3 n3 c3 l) (hf : FewT l) (hs : SAsk s) (ht : I64 t) (hv : I64 u) (hG : Glob w) : Calls Tryz.prog 11 #[.slice A n c, .slice A2 n2 c2, .slice A3 n3 c3, .agg #[.int .i64 s.nodes, .int .i64 s.cores, .int .i64 s.gpus, .string s.tag, .bool s.whole, .int .i64 s.long, .int .i64 s.prio], .int .i64 t, .int .i64 u] w (FTPost (firstAtS g use l s t u) (firstLS g use l s t u) (firstBS g use l s t u) w) := by
  cases hr : rightT l with
  | true => exact slotFirst_y HD HM HSP hg hu hl hf hs ht hv hG hr
  | false =>
    obtain ⟨e1, e2, e3⟩ := first_none (first_wrong (g := g) (use := use) (s := s) (t := t) (u := u) hr)
    rw [e1, e2, e3]
    exact slotFirst_w HD hg hu hl hf hs ht hv hG hr

end Go.Proofs.YtpoalgkgomljmaaGreatDoor
