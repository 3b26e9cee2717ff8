/- The program's Right of layer 10. Written by gen/gen_heldpright.py. Words for memory: an array of 256 bools in a block of its own (what is busy): made, marked, loaded whole, asked at a place. The program's busy and Busy of layer 10. The program's Add of layer 10. Written by gen/gen_heldpadd.py. Go's slices.Sort and slices.Compact of times (int64) at this dump, by the library's contract. slices.Sort and slices.Compact of times, by the library's contracts, in a row of one's own. The program's times of layer 13: the times that count. Written by gen/gen_slotp.py. The program's First of layer 13. Written by gen/gen_slotp.py. -/
import Derived.Test.YtpoalgkgomljmaaDoorMg09
import Derived.Test.YtpoalgkgomljmaaDoorMg06
import Derived.Laws.Rows
import Derived.Test.YtpoalgkgomljmaaDoorMg07
import Derived.Test.YtpoalgkgomljmaaDoorMg02
import Derived.Deep.RegionHeld3
import Derived.Shelf.SortM.Plain
import Derived.Shelf.SortM.SortNone
import Derived.Shelf.SlicesE.Compact
import Derived.Test.YtpoalgkgomljmaaDoorProg
import Derived.Test.YtpoalgkgomljmaaDoorMg08
namespace Go.Proofs.YtpoalgkgomljmaaDoor
open Go.RowKit

set_option maxRecDepth 100000 in
set_option maxHeartbeats 8000000 in
theorem heldRight_any (A : Option Addr) (n c : Nat) (l : Tb) (w : World) (hr : RT w w.heap.size A n l) (hnil : A = none → c = 0) (hf : FewT l) :
    Calls Tryd.prog 11 #[.slice A n c] w fun e w' => e = .returned (.bool (rightT l)) ∧ Below w.heap.size w w' := by
  have HR0 := Lib.hid hr
  have HL := Lib.hid hr.len
  have HNIL := Lib.hid hnil
  have HF := Lib.hid hf
  have hn : n ≤ 100 := by rw [← hr.len]; exact hf.1
  obtain ⟨rv, hrv⟩ : ∃ v, rightT l = v := ⟨_, rfl⟩
  have HV := Lib.hid hrv
  rw [hrv]
  clear hr hnil hf hrv
  go_enter Tryd.func11, Tryd.ntmps11
  go_wp2
  go_loopw [10] (fun iv wr => ∃ i : Nat, i ≤ n ∧ iv = .int .i64 i ∧ RiseH l i ∧ Below w.heap.size w wr) (fun iv _ => n - (intOf iv).toNat)
  case atStart => exact ⟨0, Nat.zero_le _, rfl, rise_zero l, Below.refl _ _⟩
  case round =>
    obtain ⟨i, hi, rfl, hrp, hbel⟩ := hrel
    have HRP := Lib.hid hrp
    have HB := Lib.hid hbel
    have HR := Lib.hid (HR0.out.next hbel)
    clear hrp hbel
    by_cases hlt : i < n
    · obtain ⟨b, off, A2, m2, c2, rfl, hbl, c0, c1, c2', c3, hx⟩ := HR.out.one hlt
      obtain ⟨x, hxx⟩ : ∃ x, l.getD i hd0 = x := ⟨_, rfl⟩
      rw [hxx] at c0 c2' c3 hx
      have HXX := Lib.hid hxx
      have hil : i < l.length := by rw [HL.out]; exact hlt
      have hba : Below wr.heap.size wr (wr.alloc (hO x A2 m2 c2)) := (Below.refl _ _).alloc (Nat.le_refl _) _
      have HXa := Lib.hid (hx.next hba)
      have HRa := Lib.hid (HR.out.next hba)
      have HBa := Lib.hid (HB.out.trans (hba.mono HB.out.size))
      have HBX : Hid (BoxH (wr.alloc (hO x A2 m2 c2)) wr.heap.size x A2 m2 c2) := Lib.hid (boxH_new wr x A2 m2 c2)
      have hbl' : b < (wr.alloc (hO x A2 m2 c2)).heap.size := by simp; omega
      unfold hO at HXa HRa HBa HBX hbl'
      obtain ⟨Wa, hWa⟩ : ∃ Wa, wr.alloc (.cells #[.int .i64 x.id, .slice A2 m2 c2, .int .i64 x.frm, .int .i64 x.to] 39) = Wa := ⟨_, rfl⟩
      rw [hWa] at HXa HRa HBa HBX hbl'
      clear hx hxx hba HR HB
      have HB := Lib.hid HBa.out
      have HX := Lib.hid HXa.out
      have HR := Lib.hid HRa.out
      clear HBa HXa HRa
      by_cases hm : MayH x
      · have HMX := Lib.hid hm
        have EM : Hid (mayH x = true) := Lib.hid (decide_eq_true hm)
        clear hm
        by_cases h0 : 0 < i
        · obtain ⟨b', off', A4, m4, c4, e1, hbl2, e0, _, _, _, _⟩ := HR.out.one (show i - 1 < n by omega)
          injection e1 with e1
          injection e1 with e2 e3
          subst e2 e3
          obtain ⟨y, hy⟩ : ∃ y, (l.getD (i - 1) hd0).id = y := ⟨_, rfl⟩
          rw [hy] at e0
          have HYI := Lib.hid hy
          have g0 : decide (0 < i) = true := decide_eq_true h0
          have g1 : ((i : Int) - 1) = ((i - 1 : Nat) : Int) := by omega
          have hiz : (0 : Int) ≤ (i : Int) - 1 := by omega
          have hin : (i : Int) - 1 < (n : Int) := by omega
          clear hy hbl2
          by_cases h1 : x.id ≤ y
          · have g2 : decide (x.id ≤ y) = true := decide_eq_true h1
            have HNO : Hid (rightT l = false) := Lib.hid (RiseH.bad_id hil h0 (by rw [HXX.out, HYI.out]; exact h1))
            clear h1
            go_wp2_with (simp only [hWa])
            clear hWa c0 c1 c2' c3
            have zc0 : ∀ p : Later Wa, p.now.cell? ⟨wr.heap.size, 0, none⟩ = some (.int .i64 x.id) := fun _ => Later.cell HBX.out.lt HBX.out.c0
            have zc1 : ∀ p : Later Wa, p.now.cell? ⟨wr.heap.size, 1, none⟩ = some (.slice A2 m2 c2) := fun _ => Later.cell HBX.out.lt HBX.out.c1
            have zc2 : ∀ p : Later Wa, p.now.cell? ⟨wr.heap.size, 2, none⟩ = some (.int .i64 x.frm) := fun _ => Later.cell HBX.out.lt HBX.out.c2
            have zc3 : ∀ p : Later Wa, p.now.cell? ⟨wr.heap.size, 3, none⟩ = some (.int .i64 x.to) := fun _ => Later.cell HBX.out.lt HBX.out.c3
            have zc4 : ∀ p : Later Wa, p.now.cell? ⟨b, off + (i - 1) * 4, none⟩ = some (.int .i64 y) := fun _ => Later.cell hbl' e0
            refine wp_region_later (by kernel_rfl) (by kernel_rfl) ?_
            repeat (first | go_big_quiet_skip | (go_big_quiet_want; go_big_quiet_op; first | go_big_quiet_on | (apply Exists.intro; refine ⟨fun pz => ?_, ?_⟩; (first | (go_at_call 17; exact Calls.later_of (may_any (HX.out.next pz.bel) EM.out)) | fail); go_big_quiet_on)))
            refine wpQuiet_nil ?_
            intro _ hw'
            obtain ⟨pz, rfl⟩ := hw'
            obtain ⟨w1, hb⟩ := pz
            try dsimp only
            clear zc0 zc1 zc2 zc3 zc4
            have HBq := Lib.hid (HB.out.trans (hb.mono HB.out.size))
            clear HB
            have HB := HBq
            clear HBq
            have HXq := Lib.hid (HX.out.next hb)
            clear HX
            have HX := HXq
            clear HXq
            have HRq := Lib.hid (HR.out.next hb)
            clear HR
            have HR := HRq
            clear HRq
            clear hb
            go_wp2
            go_ret
            exact ⟨by rw [← HV.out, HNO.out]; rfl, HB.out⟩
          · have g2 : decide (x.id ≤ y) = false := decide_eq_false h1
            have HID : Hid (0 < i → (l.getD (i - 1) hd0).id < (l.getD i hd0).id) := Lib.hid (fun _ => by rw [HYI.out, HXX.out]; omega)
            clear h1
            go_wp2_with (simp only [hWa])
            clear hWa c0 c1 c2' c3
            have zc0 : ∀ p : Later Wa, p.now.cell? ⟨wr.heap.size, 0, none⟩ = some (.int .i64 x.id) := fun _ => Later.cell HBX.out.lt HBX.out.c0
            have zc1 : ∀ p : Later Wa, p.now.cell? ⟨wr.heap.size, 1, none⟩ = some (.slice A2 m2 c2) := fun _ => Later.cell HBX.out.lt HBX.out.c1
            have zc2 : ∀ p : Later Wa, p.now.cell? ⟨wr.heap.size, 2, none⟩ = some (.int .i64 x.frm) := fun _ => Later.cell HBX.out.lt HBX.out.c2
            have zc3 : ∀ p : Later Wa, p.now.cell? ⟨wr.heap.size, 3, none⟩ = some (.int .i64 x.to) := fun _ => Later.cell HBX.out.lt HBX.out.c3
            have zc4 : ∀ p : Later Wa, p.now.cell? ⟨b, off + (i - 1) * 4, none⟩ = some (.int .i64 y) := fun _ => Later.cell hbl' e0
            refine wp_region_later (by kernel_rfl) (by kernel_rfl) ?_
            repeat (first | go_big_quiet_skip | (go_big_quiet_want; go_big_quiet_op; first | go_big_quiet_on | (apply Exists.intro; refine ⟨fun pz => ?_, ?_⟩; (first | (go_at_call 17; exact Calls.later_of (may_any (HX.out.next pz.bel) EM.out)) | fail); go_big_quiet_on)))
            refine wpQuiet_nil ?_
            intro _ hw'
            obtain ⟨pz, rfl⟩ := hw'
            obtain ⟨w1, hb⟩ := pz
            try dsimp only
            clear zc0 zc1 zc2 zc3 zc4
            have HBq := Lib.hid (HB.out.trans (hb.mono HB.out.size))
            clear HB
            have HB := HBq
            clear HBq
            have HXq := Lib.hid (HX.out.next hb)
            clear HX
            have HX := HXq
            clear HXq
            have HRq := Lib.hid (HR.out.next hb)
            clear HR
            have HR := HRq
            clear HRq
            clear hb
            go_wp2
            go_roundw
            case rel => exact ⟨i + 1, by omega, by go_num, HRP.out.next (by rw [HL.out]; exact hlt) (by rw [HXX.out]; exact HMX.out) HID.out, HB.out⟩
            case measure => simp [intOf]; omega
        · have g0 : decide (0 < i) = false := decide_eq_false h0
          have HID : Hid (0 < i → (l.getD (i - 1) hd0).id < (l.getD i hd0).id) := Lib.hid (fun h => absurd h h0)
          go_wp2_with (simp only [hWa])
          clear hWa c0 c1 c2' c3
          have zc0 : ∀ p : Later Wa, p.now.cell? ⟨wr.heap.size, 0, none⟩ = some (.int .i64 x.id) := fun _ => Later.cell HBX.out.lt HBX.out.c0
          have zc1 : ∀ p : Later Wa, p.now.cell? ⟨wr.heap.size, 1, none⟩ = some (.slice A2 m2 c2) := fun _ => Later.cell HBX.out.lt HBX.out.c1
          have zc2 : ∀ p : Later Wa, p.now.cell? ⟨wr.heap.size, 2, none⟩ = some (.int .i64 x.frm) := fun _ => Later.cell HBX.out.lt HBX.out.c2
          have zc3 : ∀ p : Later Wa, p.now.cell? ⟨wr.heap.size, 3, none⟩ = some (.int .i64 x.to) := fun _ => Later.cell HBX.out.lt HBX.out.c3
          refine wp_region_later (by kernel_rfl) (by kernel_rfl) ?_
          repeat (first | go_big_quiet_skip | (go_big_quiet_want; go_big_quiet_op; first | go_big_quiet_on | (apply Exists.intro; refine ⟨fun pz => ?_, ?_⟩; (first | (go_at_call 17; exact Calls.later_of (may_any (HX.out.next pz.bel) EM.out)) | fail); go_big_quiet_on)))
          refine wpQuiet_nil ?_
          intro _ hw'
          obtain ⟨pz, rfl⟩ := hw'
          obtain ⟨w1, hb⟩ := pz
          try dsimp only
          clear zc0 zc1 zc2 zc3
          have HBq := Lib.hid (HB.out.trans (hb.mono HB.out.size))
          clear HB
          have HB := HBq
          clear HBq
          have HXq := Lib.hid (HX.out.next hb)
          clear HX
          have HX := HXq
          clear HXq
          have HRq := Lib.hid (HR.out.next hb)
          clear HR
          have HR := HRq
          clear HRq
          clear hb
          go_wp2
          go_roundw
          case rel => exact ⟨i + 1, by omega, by go_num, HRP.out.next (by rw [HL.out]; exact hlt) (by rw [HXX.out]; exact HMX.out) HID.out, HB.out⟩
          case measure => simp [intOf]; omega
      · have EM : Hid (mayH x = false) := Lib.hid (decide_eq_false hm)
        have HNO : Hid (rightT l = false) := Lib.hid (RiseH.bad_may hil (by rw [HXX.out]; exact EM.out))
        clear hm
        go_wp2_with (simp only [hWa])
        clear hWa c0 c1 c2' c3
        have zc0 : ∀ p : Later Wa, p.now.cell? ⟨wr.heap.size, 0, none⟩ = some (.int .i64 x.id) := fun _ => Later.cell HBX.out.lt HBX.out.c0
        have zc1 : ∀ p : Later Wa, p.now.cell? ⟨wr.heap.size, 1, none⟩ = some (.slice A2 m2 c2) := fun _ => Later.cell HBX.out.lt HBX.out.c1
        have zc2 : ∀ p : Later Wa, p.now.cell? ⟨wr.heap.size, 2, none⟩ = some (.int .i64 x.frm) := fun _ => Later.cell HBX.out.lt HBX.out.c2
        have zc3 : ∀ p : Later Wa, p.now.cell? ⟨wr.heap.size, 3, none⟩ = some (.int .i64 x.to) := fun _ => Later.cell HBX.out.lt HBX.out.c3
        refine wp_region_later (by kernel_rfl) (by kernel_rfl) ?_
        repeat (first | go_big_quiet_skip | (go_big_quiet_want; go_big_quiet_op; first | go_big_quiet_on | (apply Exists.intro; refine ⟨fun pz => ?_, ?_⟩; (first | (go_at_call 17; exact Calls.later_of (may_any (HX.out.next pz.bel) EM.out)) | fail); go_big_quiet_on)))
        refine wpQuiet_nil ?_
        intro _ hw'
        obtain ⟨pz, rfl⟩ := hw'
        obtain ⟨w1, hb⟩ := pz
        try dsimp only
        clear zc0 zc1 zc2 zc3
        have HBq := Lib.hid (HB.out.trans (hb.mono HB.out.size))
        clear HB
        have HB := HBq
        clear HBq
        have HXq := Lib.hid (HX.out.next hb)
        clear HX
        have HX := HXq
        clear HXq
        have HRq := Lib.hid (HR.out.next hb)
        clear HR
        have HR := HRq
        clear HRq
        clear hb
        go_wp2
        go_ret
        exact ⟨by rw [← HV.out, HNO.out]; rfl, HB.out⟩
    · have hin : i = n := by omega
      have hil : i = l.length := by rw [HL.out]; exact hin
      have HRE : Hid (RiseH l l.length) := Lib.hid (by rw [← hil]; exact HRP.out)
      have HE : Hid (rv = !twiceB l) := Lib.hid (by rw [← HV.out]; exact HRE.out.end (by rw [HL.out]; omega))
      clear hil
      go_wp2_with fail
      refine (twice_any A n c l wr HR.out HNIL.out HF.out (fun x hx => HRE.out.may x (by rw [List.take_length]; exact hx))).mono ?_
      rintro e w2 ⟨rfl, hb⟩
      have HB2 := Lib.hid (HB.out.trans (hb.mono HB.out.size))
      obtain ⟨tv, htv⟩ : ∃ v, twiceB l = v := ⟨_, rfl⟩
      rw [htv] at HE ⊢
      clear hb htv
      go_wp2
      go_ret
      exact ⟨by rw [HE.out]; rfl, HB2.out⟩
theorem heldRight_b {A : Option Addr} {n c : Nat} {l : Tb} {w : World} {v : Bool} (hr : RT w w.heap.size A n l) (hnil : A = none → c = 0) (hf : FewT l) (h : rightT l = v) :
    Calls Tryd.prog 11 #[.slice A n c] w fun e w' => e = .returned (.bool v) ∧ Below w.heap.size w w' := by
  subst h; exact heldRight_any A n c l w hr hnil hf

end Go.Proofs.YtpoalgkgomljmaaDoor

namespace Go.Proofs.YtpoalgkgomljmaaDoor
open Go.RowKit

/-- the cells of marks -/
def hmarksA (p : Nat → Bool) : Array Value := ((List.range 256).map fun k => Value.bool (p k)).toArray
theorem hmarksA_size (p : Nat → Bool) : (hmarksA p).size = 256 := by unfold hmarksA; simp
theorem hmarksA_at (p : Nat → Bool) {k : Nat} (hk : k < 256) : (hmarksA p)[k]? = some (.bool (p k)) := by unfold hmarksA; simp [hk]
/-- one mark more, or less -/
def hmset (p : Nat → Bool) (k : Nat) (b : Bool) : Nat → Bool := fun j => if j = k then b else p j
theorem hmset_same (p : Nat → Bool) (k : Nat) (b : Bool) : hmset p k b k = b := by unfold hmset; rw [if_pos rfl]
theorem hmset_other (p : Nat → Bool) {k j : Nat} (b : Bool) (h : j ≠ k) : hmset p k b j = p j := by unfold hmset; rw [if_neg h]
theorem hmarksA_set (p : Nat → Bool) (k : Nat) (b : Bool) : (hmarksA p).setIfInBounds k (.bool b) = hmarksA (hmset p k b) := by
  apply Array.ext
  · simp [hmarksA_size]
  · intro j h1 h2
    rw [hmarksA_size] at h2
    have e2 := hmarksA_at (hmset p k b) h2
    rw [Array.getElem?_eq_getElem (by rw [hmarksA_size]; exact h2)] at e2
    have e2' := Option.some.inj e2
    rw [e2', Array.getElem_setIfInBounds (by rw [hmarksA_size]; exact h2)]
    split
    · rename_i h; subst h; rw [hmset_same]
    · rename_i h
      have e1 := hmarksA_at p h2
      rw [Array.getElem?_eq_getElem (by rw [hmarksA_size]; exact h2)] at e1
      rw [Option.some.inj e1, hmset_other _ _ (fun e => h e.symm)]
theorem hmarksA_ext {p q : Nat → Bool} (h : ∀ k, k < 256 → p k = q k) : hmarksA p = hmarksA q := by
  unfold hmarksA
  congr 1
  apply List.map_congr_left
  intro k hk
  rw [h k (List.mem_range.1 hk)]

theorem hmarks_closed : (Tryd.prog.info? 94).map (fun i => (i.zero.map Value.cells, i.size)) = some (some (hmarksA fun _ => false), 256) := by kernel_rfl
theorem hmarks_size : (Tryd.prog.info? 94).map (·.size) = some 256 := by kernel_rfl

/-- marks in a new block, behind a world -/
structure HMarks (W : World) (p : Nat → Bool) (wr : World) : Prop where
  bel : Below W.heap.size W wr
  at' : wr.heap[W.heap.size]? = some (.cells (hmarksA p) 94 (0, 0))
section
variable {W wr w' : World} {p : Nat → Bool} {k : Nat}
theorem HMarks.lt (h : HMarks W p wr) : W.heap.size < wr.heap.size := (Array.getElem?_eq_some_iff.1 h.at').1
theorem HMarks.cell (h : HMarks W p wr) (hk : k < 256) : wr.cell? ⟨W.heap.size, k, none⟩ = some (.bool (p k)) := by
  rw [cell_of_row _ _ _ _ _ _ h.at', hmarksA_at p hk]
theorem HMarks.frozen (h : HMarks W p wr) (k : Nat) : wr.frozen? ⟨W.heap.size, k, none⟩ = false := frozen_of_row _ _ _ _ _ h.at'
theorem HMarks.next (h : HMarks W p wr) (hb : Below wr.heap.size wr w') : HMarks W p w' := ⟨h.bel.trans (hb.mono h.bel.size), (hb.block _ h.lt).trans h.at'⟩
theorem HMarks.drewN (h : HMarks W p wr) (q : Nat) : HMarks W p (wr.drewN q) := h.next (bel_drew wr q)
theorem HMarks.set (h : HMarks W p wr) (b : Bool) : HMarks W (hmset p k b) (wr.setCell ⟨W.heap.size, k, none⟩ (.bool b)) := by
  refine ⟨h.bel.setCell (Nat.le_refl _) _, ?_⟩
  rw [heap_setCell_same wr W.heap.size k _ _ _ h.at', hmarksA_set]
theorem HMarks.ext {q : Nat → Bool} (h : HMarks W p wr) (he : ∀ k, k < 256 → p k = q k) : HMarks W q wr := ⟨h.bel, by rw [h.at', hmarksA_ext he]⟩
theorem hmarks_made (W : World) : HMarks W (fun _ => false) (W.alloc (.cells (hmarksA fun _ => false) 94)) :=
  ⟨(Below.refl _ _).alloc (Nat.le_refl _) _, heap_alloc_new W _⟩
theorem hmarks_boxed (W : World) (p : Nat → Bool) : HMarks W p (W.alloc (.cells (hmarksA p) 94)) :=
  ⟨(Below.refl _ _).alloc (Nat.le_refl _) _, heap_alloc_new W _⟩
end

/-- 'var in marks' -/
theorem wpList_alloc_hmarks {ops : Array Oper} {rest : List Oper} {o : Oper} {a : Act} {Q : Exit → Act → World → Prop} {w : World} (hgd : o.guard = none) (ho : o.op = .alloc 94)
    (h : ∀ w', HMarks w (fun _ => false) w' → wpList Tryd.prog ops Q rest (a.put o.dst (.pointer (some ⟨w.heap.size, 0, none⟩))) w') : wpList Tryd.prog ops Q (o :: rest) a w := by
  refine wpList_plain hgd fun K hK => ?_
  have hc := hmarks_closed
  cases hi : Tryd.prog.info? 94 with
  | none => rw [hi] at hc; cases hc
  | some i =>
    rw [hi] at hc
    simp only [Option.map_some, Option.some.injEq, Prod.mk.injEq] at hc
    obtain ⟨z, hz, hzc⟩ : ∃ z, i.zero = some z ∧ z.cells = hmarksA fun _ => false := by
      cases hz : i.zero with
      | none => rw [hz] at hc; cases hc.1
      | some z => rw [hz] at hc; exact ⟨z, rfl, Option.some.inj hc.1⟩
    have hrun : (Instr.alloc 94 true (.tuple #[])).run Tryd.prog w = .ok (.pointer (some ⟨w.heap.size, 0, none⟩)) (w.alloc (.cells (hmarksA fun _ => false) 94)) := by
      simp [Instr.alloc, zeroValue, typeInfo, hi, hz, newVar, newRow, hzc]
    unfold Oper.wp
    simp [execOp, ho, hrun, Result.andThen]
    exact hK _ _ (h _ (hmarks_made w))
/-- 'in', as a value -/
theorem wpList_load_hmarks {ops : Array Oper} {rest : List Oper} {o : Oper} {a : Act} {Q : Exit → Act → World → Prop} {W w : World} {p : Nat → Bool} (hgd : o.guard = none) (x : Operand) (ho : o.op = .load 94 x)
    (hm : HMarks W p w) (hx : a.eval x = .pointer (some ⟨W.heap.size, 0, none⟩))
    (h : wpList Tryd.prog ops Q rest (a.put o.dst (.agg (hmarksA p))) w) : wpList Tryd.prog ops Q (o :: rest) a w :=
  wpList_load_row hgd _ x ho W.heap.size hx _ (hmarksA p) (0, 0) _ hm.at' Tryd.underlying94 rfl (by rw [hmarks_size, hmarksA_size]) h
/-- a mark of a value of marks -/
theorem run_ix_hmarks (p : Nat → Bool) {k : Nat} (hk : k < 256) (W : World) : (Instr.index 94 (.agg (hmarksA p)) (.int .i64 (k : Int))).run Tryd.prog W = .ok (.bool (p k)) W := by
  have h1 := hmarksA_at p hk
  have h2 : k < 256 := hk
  simp [Instr.index, run_underlying Tryd.underlying94, asIntOf, part, isAgg, run_underlying Tryd.underlying4, Tryd.sizeOf4, h1, h2]

end Go.Proofs.YtpoalgkgomljmaaDoor

namespace Go.Proofs.YtpoalgkgomljmaaDoor
open Go.RowKit

theorem append_EI {P : Program} {ops : Array Oper} {rest : List Oper} {o : Oper} {a : Act} {Q : Exit → Act → World → Prop} {w wr : World} {v : Value} {xs : List Int} (hgd : o.guard = none) (s x : Operand) (ty t : TypeId)
    (ho : o.op = .call { callee := .builtin .append, args := #[s, x], argTypes := #[ty, ty] })
    (h : ON EI 1 t w v xs wr) (i : TypeInfo) (ht : P.underlying ty = some (.slice t)) (hi : P.info? t = some i) (hz : i.zero = some (.int .i64 0)) (hsize : i.size = 1) (hby : i.bytes = 8)
    (hs : a.eval s = v) (x0 : Int) (hx : a.eval x = .slice (some ⟨wr.heap.size, 0, none⟩) 1 1) (hl : xs.length ≤ 1000)
    (hk : ∀ v' w', ON EI 1 t w v' (xs ++ [x0]) w' → wpList P ops Q rest (a.put o.dst v') w') : wpList P ops Q (o :: rest) a (wr.alloc (.cells #[.int .i64 x0] t)) :=
  wpList_append_ON hgd s x ty ho ei_steady h i (.int .i64 0) 8 ht hi hz hsize hby rfl (by decide) hs x0 #[.int .i64 x0] hx rfl (by intro u hu; simp at hu; subst hu; rfl) rfl (by unfold maxLen; omega) (by omega) hk
theorem EH.things {w : World} {ok : Nat → Prop} {x : Hd} {A : Option Addr} {m c : Nat} {a b d : Value} (h : EH w ok x [a, .slice A m c, b, d]) : RN EI 1 w ok A m x.things := by
  obtain ⟨A', m', c', hv, hr, _⟩ := h
  injection hv with _ hv
  injection hv with hv _
  injection hv with e1 e2 e3
  subst e1 e2 e3
  exact hr
theorem busyP_succ {l : Tb} {k : Nat} (hk : k < l.length) (a b n : Int) : busyP (l.take (k + 1)) a b n = (busyP (l.take k) a b n || (meetsZ (l.getD k hd0).frm (l.getD k hd0).to a b && (l.getD k hd0).things.contains n)) := by
  unfold busyP
  rw [List.take_succ_eq_append_getElem hk, List.any_append, getD_at hk]
  simp
theorem take_contains {xs : List Int} {j : Nat} (hj : j < xs.length) (n : Int) : (xs.take (j + 1)).contains n = ((xs.take j).contains n || (n == xs.getD j 0)) := by
  rw [List.take_succ_eq_append_getElem hj, z_at hj, Bool.eq_iff_iff, Bool.or_eq_true, List.contains_iff_mem, List.contains_iff_mem, List.mem_append, List.mem_singleton, beq_iff_eq]
theorem busy_list {l : Tb} (hr : rightT l = true) (a b : Int) : numsF (fun i => busyP l a b (i : Int)) 256 = busyT l a b := by
  unfold busyT pickL
  rw [if_pos hr, numsF_pick _ _ (Nat.le_refl _)]
  refine right_ext (right_pickL (fun x => decide (0 ≤ x) && busyP l a b (x.toNat : Int))) (right_pickL (busyP l a b)) fun n => ?_
  show n ∈ pickL _ ↔ n ∈ pickL _
  rw [mem_pickL, mem_pickL]
  constructor
  · rintro ⟨h1, h2, h3⟩
    rw [Bool.and_eq_true, decide_eq_true_eq] at h3
    rw [Int.toNat_of_nonneg h1] at h3
    exact ⟨h1, h2, h3.2⟩
  · rintro ⟨h1, h2, h3⟩
    refine ⟨h1, h2, ?_⟩
    rw [Bool.and_eq_true, decide_eq_true_eq, Int.toNat_of_nonneg h1]
    exact ⟨h1, h3⟩

set_option maxRecDepth 100000 in
set_option maxHeartbeats 8000000 in
theorem busy_any (A : Option Addr) (n c : Nat) (l : Tb) (a b : Int) (w : World) (hr : RT w w.heap.size A n l) (hf : FewT l) (hrt : rightT l = true) :
    Calls Tryd.prog 36 #[.slice A n c, .int .i64 a, .int .i64 b] w (IPost (busyT l a b) w) := by
  obtain ⟨i0, hi0, hz0, hz1, hz2⟩ := info_parts int_info
  have HL := Lib.hid hr.len
  have HR := Lib.hid hr
  have hn : n ≤ 100 := by rw [← hr.len]; exact hf.1
  have HF := Lib.hid hf
  have HRT := Lib.hid (rightT_is.1 hrt)
  have HE := Lib.hid (busy_list hrt a b)
  rw [← HE.out]
  obtain ⟨p, hp⟩ : ∃ p : Nat → Bool, (fun i : Nat => busyP l a b (i : Int)) = p := ⟨_, rfl⟩
  have HP : Hid (∀ i : Nat, p i = busyP l a b (i : Int)) := Lib.hid (fun i => by rw [← hp])
  rw [hp]
  clear hr hf hrt hp
  go_enter Tryd.func36, Tryd.ntmps36
  go_wp2_with (with_reducible refine wpList_alloc_hmarks rfl rfl ?_; intro w2 hm; refine Hid.out ?_)
  refine Lib.hid ?_
  have HM2 := Lib.hid hm
  clear hm
  go_wp2
  go_loopw [17] (fun i wr => ∃ k : Nat, k ≤ n ∧ i = .int .i64 k ∧ HMarks w (fun i => busyP (l.take k) a b (i : Int)) wr) (fun i _ => n - (intOf i).toNat)
  case atStart => exact ⟨0, Nat.zero_le _, rfl, HM2.out.ext (fun k _ => by simp [busyP])⟩
  case round =>
    obtain ⟨k, hk, rfl, hm⟩ := hrel
    have HM := Lib.hid hm
    clear hm
    by_cases hlt : k < n
    · have hkl : k < l.length := by rw [HL.out]; exact hlt
      obtain ⟨b1, off, A2, m2, c2, rfl, hbl, c0, c1, c2', c3, hel⟩ := RT.el (HR.out.below HM.out.bel) hlt
      have hx := RN.ri (hel.things.keep ei_steady (fun b hb => (HM.out.bel.block b hb).symm) (fun _ h => h))
      have hsucc := busyP_succ hkl a b
      have hxm := HRT.out.may _ (List.getElem_mem hkl)
      rw [← getD_at hkl] at hxm
      obtain ⟨x, hxx⟩ : ∃ x, l.getD k hd0 = x := ⟨_, rfl⟩
      rw [hxx] at c0 c2' c3 hx hsucc hxm hel
      have HSU := Lib.hid hsucc
      have HXM := Lib.hid hxm
      have hm100 : m2 ≤ 100 := by have := HF.out.at hkl; rw [hxx] at this; have := hx.1; omega
      have hba : Below wr.heap.size wr (wr.alloc (hO x A2 m2 c2)) := (Below.refl _ _).alloc (Nat.le_refl _) _
      have HX : Hid (RI w w.heap.size A2 m2 x.things) := Lib.hid hx
      have HMa := Lib.hid (HM.out.next hba)
      have HBX : Hid (BoxH (wr.alloc (hO x A2 m2 c2)) wr.heap.size x A2 m2 c2) := Lib.hid (boxH_new wr x A2 m2 c2)
      unfold hO at HMa HBX
      obtain ⟨Wa, hWa⟩ : ∃ Wa, wr.alloc (.cells #[.int .i64 x.id, .slice A2 m2 c2, .int .i64 x.frm, .int .i64 x.to] 39) = Wa := ⟨_, rfl⟩
      rw [hWa] at HMa HBX
      have q2 := HBX.out.c2
      have q3 := HBX.out.c3
      clear hx hel hxx hba hbl hsucc hxm hkl HM
      cases hme : meetsZ x.frm x.to a b with
      | false =>
        have EM := Lib.hid hme
        go_wp2_with (simp only [hWa])
        clear hWa c0 c1 c2' c3
        refine (meets_any EM.out).mono ?_
        rintro e w5 ⟨rfl, hb⟩
        have HM5 := Lib.hid (HMa.out.next hb)
        clear hb q2 q3
        go_wp2
        go_roundw
        case rel => exact ⟨k + 1, by omega, by go_num, HM5.out.ext (fun i _ => by rw [HSU.out, EM.out, Bool.false_and, Bool.or_false])⟩
        case measure => simp [intOf]; omega
      | true =>
        have EM := Lib.hid hme
        go_wp2_with (simp only [hWa])
        clear hWa c0 c1 c2' c3
        refine (meets_any EM.out).mono ?_
        rintro e w5 ⟨rfl, hb⟩
        have HM5 := Lib.hid (HMa.out.next hb)
        have HBX5 := Lib.hid (HBX.out.next hb)
        clear hb q2 q3
        have q1 := HBX5.out.c1
        go_wp2
        clear q1
        go_loopw [32] (fun i wq => ∃ j : Nat, j ≤ m2 ∧ i = .int .i64 j ∧ HMarks w (fun i => busyP (l.take k) a b (i : Int) || (x.things.take j).contains (i : Int)) wq) (fun i _ => m2 - (intOf i).toNat)
        case atStart => exact ⟨0, Nat.zero_le _, rfl, HM5.out.ext (fun i _ => by simp)⟩
        case round =>
          obtain ⟨j, hj, rfl, hm⟩ := hrel
          have HMq := Lib.hid hm
          clear hm
          by_cases hltj : j < m2
          · have hjl : j < x.things.length := by rw [HX.out.1]; exact hltj
            obtain ⟨b2, o2, rfl, _, hcy⟩ := (HX.out.below HMq.out.bel).one hltj
            have hym := right_mem HXM.out.2.1 _ (z_mem hjl)
            have htc := take_contains hjl
            obtain ⟨y, hy⟩ : ∃ y, x.things.getD j 0 = y := ⟨_, rfl⟩
            rw [hy] at hcy hym htc
            obtain ⟨q, rfl⟩ : ∃ q : Nat, y = (q : Int) := ⟨y.toNat, by omega⟩
            have hq256 : q < 256 := by omega
            have hqz : (q : Int) < 256 := by omega
            have HTC := Lib.hid htc
            have ht := HMq.out.cell hq256
            have hz := HMq.out.frozen q
            have HMN : Hid (HMarks w (fun i => busyP (l.take k) a b (i : Int) || (x.things.take (j + 1)).contains (i : Int)) (wr.setCell ⟨w.heap.size, q, none⟩ (.bool true))) := Lib.hid ((HMq.out.set true).ext (fun i _ => by
              rw [HTC.out]
              by_cases e : i = q
              · subst e; rw [hmset_same]; simp
              · rw [hmset_other _ _ e, show ((i : Int) == (q : Int)) = false from beq_eq_false_iff_ne.2 (by omega), Bool.or_false]))
            clear hy hym htc hjl
            go_wp2
            go_roundw
            case rel => exact ⟨j + 1, by omega, by go_num, HMN.out⟩
            case measure => simp [intOf]; omega
          · have hjm : j = m2 := by omega
            have HFIN : Hid (HMarks w (fun i => busyP (l.take (k + 1)) a b (i : Int)) wr) := Lib.hid (HMq.out.ext (fun i _ => by rw [HSU.out, EM.out, Bool.true_and, List.take_of_length_le (l := x.things) (by rw [HX.out.1]; omega)]))
            go_wp2
            go_roundw
            case rel => exact ⟨k + 1, by omega, by go_num, HFIN.out⟩
            case measure => simp [intOf]; omega
    · have hkn : k = n := by omega
      have HM1 : Hid (HMarks w p wr) := Lib.hid (HM.out.ext (fun i _ => by rw [HP.out, List.take_of_length_le (by rw [HL.out]; omega)]))
      have HB1 := Lib.hid HM1.out.bel
      clear HM
      go_wp2_with (with_reducible refine wpList_load_hmarks rfl _ rfl HM1.out rfl ?_; refine Hid.out ?_)
      refine Lib.hid ?_
      go_wp2
      obtain ⟨wm, hwm⟩ : ∃ wm, wr = wm := ⟨_, rfl⟩
      subst hwm
      go_loopw [12, 41] (fun v i wx => ∃ k : Nat, k ≤ 256 ∧ i = .int .i64 k ∧ ON EI 1 3 wr v (numsF p k) wx) (fun _ i _ => 256 - (intOf i).toNat)
      case atStart => exact ⟨0, Nat.zero_le _, rfl, ON.nil _⟩
      case round =>
        obtain ⟨k, hk, rfl, hf⟩ := hrel
        have HO := Lib.hid hf
        clear hf
        by_cases hlt : k < 256
        · have hlen : Hid ((numsF p k).length ≤ 1000) := Lib.hid (by have := numsF_len p k; omega)
          have hix := run_ix_hmarks p hlt
          cases hp : p k with
          | true =>
            have HS := Lib.hid (numsF_yes hp)
            rw [hp] at hix
            clear hp
            go_wp2_with (at_builtin; refine append_EI rfl (.tmp 46) (.tmp 48) 23 3 rfl HO.out i0 Tryd.underlying23 hi0 hz0 hz1 hz2 rfl _ rfl hlen.out ?_; intro v' w4 hON4; refine Hid.out ?_)
            refine Lib.hid ?_
            have HO4 := Lib.hid hON4
            clear hON4 hix
            go_wp2
            go_roundw
            case rel => exact ⟨k + 1, by omega, by go_num, by rw [HS.out]; exact HO4.out⟩
            case measure => simp [intOf]; omega
          | false =>
            have HS := Lib.hid (numsF_no hp)
            rw [hp] at hix
            clear hp
            go_wp2
            go_roundw
            case rel => exact ⟨k + 1, by omega, by go_num, by rw [HS.out]; exact HO.out⟩
            case measure => simp [intOf]; omega
        · have hkn : k = 256 := by omega
          subst hkn
          go_wp2
          go_ret
          exact HO.out.ipost.trans HB1.out

end Go.Proofs.YtpoalgkgomljmaaDoor

namespace Go.Proofs.YtpoalgkgomljmaaDoor
open Go.RowKit

theorem keep_cellH {w wx : World} {p : Addr} {v : Value} (hl : p.block < w.heap.size) (h : w.cell? p = some v) (hb : Below w.heap.size w wx) : wx.cell? p = some v := (hb.cell hl).trans h
theorem bel_drewH (w : World) : Below w.heap.size w w.drew := bel_drew w 1
/-- a row of holdings of one's own, carried from world to world -/
def ONH (w : World) (v : Value) (l : Tb) (wr : World) : Prop := ON EH 4 39 w v l wr
theorem ONH.next {w wr w1 : World} {v : Value} {l : Tb} (h : ONH w v l wr) (hb : Below wr.heap.size wr w1) : ONH w v l w1 := ON.next eh_steady h hb
theorem onh_post {W w wr : World} {A : Option Addr} {n c : Nat} {l : Tb} {er : Int} (h : ONH W (.slice A n c) l wr) (hb : Below w.heap.size w wr) : TEPost l er w (.returned (.tuple #[.slice A n c, .int .i64 er])) wr := by
  obtain ⟨A', c', e, h1, h2⟩ := ON.form h
  injection e with e1 e2 e3
  subst e1 e2 e3
  exact tepost_mk (ON.reads eh_steady (by omega) h rfl) h1 h2 hb
theorem four_one (h : Hd) (A : Option Addr) (m c : Nat) : ∀ u ∈ ([.int .i64 h.id, .slice A m c, .int .i64 h.frm, .int .i64 h.to] : List Value), u.oneCell' = true := by
  intro u hu
  simp at hu
  rcases hu with rfl | rfl | rfl | rfl <;> rfl
theorem busyT_len (l : Tb) (a b : Int) : (busyT l a b).length ≤ 256 := by
  unfold busyT
  split
  · exact length_pickL _
  · exact Nat.zero_le _
theorem apart_comm (a b : List Int) : apartB a b = apartB b a := by
  unfold apartB
  rw [Bool.eq_iff_iff]
  simp only [Bool.and_eq_true, List.all_eq_true, Bool.not_eq_true', ← Bool.not_eq_true, List.contains_iff_mem]
  exact ⟨fun ⟨⟨h1, h2⟩, h3⟩ => ⟨⟨h2, h1⟩, fun n hn hm => h3 n hm hn⟩, fun ⟨⟨h1, h2⟩, h3⟩ => ⟨⟨h2, h1⟩, fun n hn hm => h3 n hm hn⟩⟩







end Go.Proofs.YtpoalgkgomljmaaDoor

namespace Go.Proofs
open Go.Shelf
open Go.RowKit
def Tryd.sortTimes_ren : Go.Shelf.Ren := ⟨fun | 5 => 29 | 7 => 41 | 8 => 42 | 10 => 60 | 11 => 61 | 12 => 62 | 13 => 63 | 14 => 64 | 15 => 65 | 16 => 66 | 17 => 67 | 18 => 68 | 19 => 69 | 20 => 70 | 30 => 84 | 31 => 85 | 32 => 86 | 33 => 87 | 34 => 88 | 35 => 59 | 40 => 92 | n => n, fun | 0 => 0 | 3 => 3 | 4 => 4 | 5 => 5 | 9 => 9 | 22 => 42 | 23 => 42 | 25 => 2 | 32 => 69 | 35 => 98 | 36 => 99 | 41 => 92 | 44 => 27 | 46 => 46 | 53 => 116 | 57 => 120 | 63 => 124 | 64 => 125 | n => n, fun | n => n⟩
theorem Tryd.sortTimes : Go.Proofs.SlLaysM.n5 Tryd.prog Tryd.sortTimes_ren := {
  mixed := by kernel_rfl
  f5 := ⟨Tryd.f29.name, by decide, Tryd.func29.trans (congrArg some (by kernel_rfl))⟩
  f7 := ⟨Tryd.f41.name, by decide, Tryd.func41.trans (congrArg some (by kernel_rfl))⟩
  f8 := Tryd.func42.trans (congrArg some (by kernel_rfl))
  f10 := ⟨Tryd.f60.name, by decide, Tryd.func60.trans (congrArg some (by kernel_rfl))⟩
  f11 := ⟨Tryd.f61.name, by decide, Tryd.func61.trans (congrArg some (by kernel_rfl))⟩
  f12 := ⟨Tryd.f62.name, by decide, Tryd.func62.trans (congrArg some (by kernel_rfl))⟩
  f13 := ⟨Tryd.f63.name, by decide, Tryd.func63.trans (congrArg some (by kernel_rfl))⟩
  f14 := ⟨Tryd.f64.name, by decide, Tryd.func64.trans (congrArg some (by kernel_rfl))⟩
  f15 := ⟨Tryd.f65.name, by decide, Tryd.func65.trans (congrArg some (by kernel_rfl))⟩
  f16 := ⟨Tryd.f66.name, by decide, Tryd.func66.trans (congrArg some (by kernel_rfl))⟩
  f17 := ⟨Tryd.f67.name, by decide, Tryd.func67.trans (congrArg some (by kernel_rfl))⟩
  f18 := ⟨Tryd.f68.name, by decide, Tryd.func68.trans (congrArg some (by kernel_rfl))⟩
  f19 := Tryd.func69.trans (congrArg some (by kernel_rfl))
  f20 := Tryd.func70.trans (congrArg some (by kernel_rfl))
  f30 := ⟨Tryd.f84.name, by decide, Tryd.func84.trans (congrArg some (by kernel_rfl))⟩
  f31 := Tryd.func85.trans (congrArg some (by kernel_rfl))
  f32 := Tryd.func86.trans (congrArg some (by kernel_rfl))
  f33 := ⟨Tryd.f87.name, by decide, Tryd.func87.trans (congrArg some (by kernel_rfl))⟩
  f34 := ⟨Tryd.f88.name, by decide, Tryd.func88.trans (congrArg some (by kernel_rfl))⟩
  f35 := ⟨Tryd.f59.name, by decide, Tryd.func59.trans (congrArg some (by kernel_rfl))⟩
  f40 := ⟨Tryd.f92.name, by decide, Tryd.func92.trans (congrArg some (by kernel_rfl))⟩
  t0 := Tryd.underlying0
  a0 := Tryd.isAgg0
  z0 := Tryd.sizeOf0
  v0 := Tryd.zeroValue0
  t3 := Tryd.underlying3
  a3 := Tryd.isAgg3
  z3 := Tryd.sizeOf3
  v3 := Tryd.zeroValue3
  t4 := Tryd.underlying4
  a4 := Tryd.isAgg4
  z4 := Tryd.sizeOf4
  v4 := Tryd.zeroValue4
  t5 := Tryd.underlying5
  a5 := Tryd.isAgg5
  z5 := Tryd.sizeOf5
  v5 := Tryd.zeroValue5
  t9 := Tryd.underlying9
  a9 := Tryd.isAgg9
  z9 := Tryd.sizeOf9
  v9 := Tryd.zeroValue9
  t22 := Tryd.underlying42
  a22 := Tryd.isAgg42
  z22 := Tryd.sizeOf42
  v22 := Tryd.zeroValue42
  t23 := Tryd.underlying42
  a23 := Tryd.isAgg42
  z23 := Tryd.sizeOf42
  v23 := Tryd.zeroValue42
  t25 := Tryd.underlying2
  a25 := Tryd.isAgg2
  z25 := Tryd.sizeOf2
  v25 := Tryd.zeroValue2
  t32 := Tryd.underlying69
  a32 := Tryd.isAgg69
  z32 := Tryd.sizeOf69
  v32 := Tryd.zeroValue69
  t35 := Tryd.underlying98
  a35 := Tryd.isAgg98
  z35 := Tryd.sizeOf98
  v35 := Tryd.zeroValue98
  t36 := Tryd.underlying99
  a36 := Tryd.isAgg99
  z36 := Tryd.sizeOf99
  v36 := Tryd.zeroValue99
  t41 := Tryd.underlying92
  a41 := Tryd.isAgg92
  z41 := Tryd.sizeOf92
  v41 := Tryd.zeroValue92
  t44 := Tryd.underlying27
  a44 := Tryd.isAgg27
  z44 := Tryd.sizeOf27
  v44 := Tryd.zeroValue27
  t46 := Tryd.underlying46
  a46 := Tryd.isAgg46
  z46 := Tryd.sizeOf46
  v46 := Tryd.zeroValue46
  t53 := Tryd.underlying116
  a53 := Tryd.isAgg116
  z53 := Tryd.sizeOf116
  v53 := Tryd.zeroValue116
  t57 := Tryd.underlying120
  a57 := Tryd.isAgg120
  z57 := Tryd.sizeOf120
  v57 := Tryd.zeroValue120
  t63 := Tryd.underlying124
  a63 := Tryd.isAgg124
  z63 := Tryd.sizeOf124
  v63 := Tryd.zeroValue124
  t64 := Tryd.underlying125
  a64 := Tryd.isAgg125
  z64 := Tryd.sizeOf125
  v64 := Tryd.zeroValue125
}
def Tryd.compactTimes_ren : Go.Shelf.Ren := ⟨fun | 43 => 30 | n => n, fun | 0 => 0 | 3 => 3 | 4 => 4 | 22 => 42 | 23 => 2 | n => n, fun | n => n⟩
theorem Tryd.compactTimes : Go.Proofs.SlLaysE.n43 Tryd.prog Tryd.compactTimes_ren := {
  mixed := by kernel_rfl
  f43 := ⟨Tryd.f30.name, by decide, Tryd.func30.trans (congrArg some (by kernel_rfl))⟩
  t0 := Tryd.underlying0
  a0 := Tryd.isAgg0
  z0 := Tryd.sizeOf0
  v0 := Tryd.zeroValue0
  t3 := Tryd.underlying3
  a3 := Tryd.isAgg3
  z3 := Tryd.sizeOf3
  v3 := Tryd.zeroValue3
  t4 := Tryd.underlying4
  a4 := Tryd.isAgg4
  z4 := Tryd.sizeOf4
  v4 := Tryd.zeroValue4
  t22 := Tryd.underlying42
  a22 := Tryd.isAgg42
  z22 := Tryd.sizeOf42
  v22 := Tryd.zeroValue42
  a23 := Tryd.isAgg2
  z23 := Tryd.sizeOf2
}

end Go.Proofs

namespace Go.Proofs.YtpoalgkgomljmaaDoor
open Go.RowKit Go.Sort

theorem int64_infoH : (Tryd.prog.info? 2).map (fun i => (i.zero, i.size, i.bytes)) = some (some (.int .i64 0), 1, 8) := by kernel_rfl
theorem ends_take_yes {l : Tb} {k : Nat} {z : Int} (hk : k < l.length) (h : z < (l.getD k hd0).to) : ((l.take (k + 1)).map Hd.to).filter (fun t => decide (z < t)) = ((l.take k).map Hd.to).filter (fun t => decide (z < t)) ++ [(l.getD k hd0).to] := by
  rw [getD_at hk] at h ⊢
  rw [List.take_succ_eq_append_getElem hk, List.map_append, List.filter_append]
  simp [h]
theorem ends_take_no {l : Tb} {k : Nat} {z : Int} (hk : k < l.length) (h : ¬ z < (l.getD k hd0).to) : ((l.take (k + 1)).map Hd.to).filter (fun t => decide (z < t)) = ((l.take k).map Hd.to).filter (fun t => decide (z < t)) := by
  rw [getD_at hk] at h
  rw [List.take_succ_eq_append_getElem hk, List.map_append, List.filter_append]
  simp [h]
theorem put_below {B g q : Nat} {w0 w : World} {d : Array Int} (h : Below B w0 w) (hB : B ≤ g) : Below B w0 (putRow (Value.int .i64) (Sort.ahead w q) g 0 d) := by
  refine h.trans ⟨rfl, rfl, rfl, by simp [putRow, mapBlock], fun b hb => ?_⟩
  show ((Sort.ahead w q).heap.modify g (onCells (putCells (Value.int .i64) 0 d)))[b]? = _
  rw [Array.getElem?_modify, if_neg (by omega)]
  rfl
theorem grow_below {B : Nat} {w0 w : World} {os : Array Obj} (h : Below B w0 w) (hB : B ≤ w.heap.size) : Below B w0 (grow w os) :=
  h.trans ⟨rfl, rfl, rfl, by simp, fun b hb => heap_grow_old w os (by omega)⟩

set_option maxRecDepth 100000 in
set_option maxHeartbeats 2000000 in
/-- too short to hold a time twice -/
theorem compact_short (A : Option Addr) (n c : Nat) (w : World) (hn : n < 2) :
    Calls Tryd.prog 30 #[.slice A n c] w fun e w' => e = .returned (.slice A n c) ∧ w' = w := by
  have d0 : decide (n < 2) = true := decide_eq_true hn
  go_enter Tryd.func30, Tryd.ntmps30
  go_wp2
  go_ret
  exact ⟨rfl, rfl⟩
/-- sorted in place -/
theorem sortTimes_any (A : Option Addr) (n c : Nat) (L : List Int) (w wr : World) (hO : ON EI 1 2 w (.slice A n c) L wr) (hln : L.length = n) (hn : n ≤ 1000) :
    Calls Tryd.prog 29 #[.slice A n c] wr fun e w' => e = .returned (.tuple #[]) ∧ Below w.heap.size w w' ∧ (n = 0 ∨ ∃ g, A = some ⟨g, 0, none⟩ ∧ w.heap.size ≤ g ∧ g < w'.heap.size ∧ Holds (Value.int .i64) w' g 0 (L.mergeSort fun x y => decide (x ≤ y)).toArray) := by
  rcases Nat.eq_zero_or_pos n with h0 | h0
  · subst h0
    have hcon := Go.Proofs.AnyM.slices_Sort_int_none Tryd.sortTimes A c wr
    change Calls Tryd.prog 29 _ _ _ at hcon
    exact hcon.mono fun e w' ⟨h1, h2⟩ => ⟨h1, by rw [h2]; exact hO.below, .inl rfl⟩
  · obtain ⟨h1, h2⟩ := on_own hO
    obtain ⟨g, rfl, hgb, hgl⟩ := hO.head h0
    rw [hln] at h1
    have hH : Holds (Value.int .i64) wr g 0 L.toArray := fun j hj => by
      have hj' : j < L.length := by simpa using hj
      rw [Nat.zero_add, h1.cellAt j (by omega), h1.frozenAt j, List.getElem?_map, List.getElem?_eq_getElem hj', arr_at hj']
      exact ⟨rfl, rfl⟩
    have hcon := Go.Proofs.AnyM.slices_Sort_int Tryd.sortTimes g 0 c L wr hH hgl (by omega)
    change Calls Tryd.prog 29 _ _ _ at hcon
    rw [hln] at hcon
    refine hcon.mono fun e w' ⟨e1, q, os, e2⟩ => ⟨e1, ?_, .inr ⟨g, rfl, hgb, ?_, ?_⟩⟩
    · rw [e2]
      exact grow_below (put_below h2 hgb) (by simp [putRow, mapBlock]; exact h2.size)
    · rw [e2]
      simp [putRow, mapBlock]
      show g < wr.heap.size + _
      omega
    · rw [e2]
      exact holds_grow _ _ _ _ _ _ (by simp [putRow, mapBlock]; exact hgl) (holds_putRow _ _ _ _ L.toArray _ (holds_ahead _ _ _ _ _ _ hH) (by simp))

/-- each once -/
theorem compactTimes_any (g n c : Nat) (S : List Int) (w wr : World) (hb : Below w.heap.size w wr) (hgb : w.heap.size ≤ g) (hgl : g < wr.heap.size) (hH : Holds (Value.int .i64) wr g 0 S.toArray) (hln : S.length = n) (hn : n ≤ 1000) (hc : n ≤ c) :
    Calls Tryd.prog 30 #[.slice (some ⟨g, 0, none⟩) n c] wr (IPost (Lib.compactUpTo S.toArray S.length) w) := by
  have hsz : S.toArray.size = n := by simpa using hln
  have hcon := Go.Proofs.AnyE.slices_Compact Tryd.compactTimes (Value.int .i64) (fun _ => rfl) (Go.Proofs.EqlAt.intD _ _ _) (Go.Proofs.NeqAt.intD _ _ _) 0 Tryd.zeroValue2 g 0 c S.toArray wr hH (by omega) (by omega)
  change Calls Tryd.prog 30 _ _ _ at hcon
  rw [hsz] at hcon
  rw [hln]
  obtain ⟨L, hL⟩ : ∃ L, Lib.compactUpTo S.toArray n = L := ⟨_, rfl⟩
  have hLn : L.length ≤ n := by
    rw [← hL]
    unfold Lib.compactUpTo
    rw [List.length_map]
    have := List.length_filter_le (Lib.keeps S.toArray) (List.range n)
    rwa [List.length_range] at this
  rw [hL] at hcon ⊢
  refine hcon.mono fun e w' ⟨e1, q, e2⟩ => ?_
  have hP : Holds (Value.int .i64) w' g 0 (L ++ List.replicate (n - L.length) 0).toArray := by
    rw [e2]
    exact holds_putRow _ _ _ _ S.toArray _ (holds_ahead _ _ _ _ _ _ hH) (by simp; omega)
  have hgl' : g < w'.heap.size := by rw [e2]; simp [putRow, mapBlock]; exact hgl
  rw [e1]
  refine ipost_mk ⟨rfl, fun h0 => ⟨g, 0, rfl, hgl', fun j hj => ?_⟩⟩ (fun e => by cases e) (by omega) (by rw [e2]; exact put_below hb hgb)
  have h1 := (hP j (by simp; omega)).1
  rw [h1, arr_at (by simp; omega), List.getElem_append_left hj, List.getD, List.getElem?_eq_getElem hj]
  rfl


end Go.Proofs.YtpoalgkgomljmaaDoor

namespace Go.Proofs.YtpoalgkgomljmaaDoor
open Go.RowKit

set_option maxRecDepth 100000 in
set_option maxHeartbeats 8000000 in
theorem slotTimes_any (HD : HeldOk) (A : Option Addr) (n c : Nat) (l : Tb) (t : Int) (w : World) (hl : TAsk w A n c l) (hf : FewT l) :
    Calls Tryd.prog 12 #[.slice A n c, .int .i64 t] w (IPost (ticksS l t) w) := by
  obtain ⟨i0, hi0, hz0, hz1, hz2⟩ := info_parts int64_infoH
  have hba : Below w.heap.size w (w.alloc (.cells #[.int .i64 t] 2)) := (Below.refl _ _).alloc (Nat.le_refl _) _
  have TA := Lib.hid (hl.next hba)
  have HF := Lib.hid hf
  have HOW : Hid (World.ownsRow (w.alloc (.cells #[.int .i64 t] 2)) w.heap.size 2 1 (.slice (some ⟨w.heap.size, 0, none⟩) 1 1) 1 [.int .i64 t]) := Lib.hid ⟨rfl, .inr ⟨w.heap.size, 1, #[.int .i64 t], rfl, Nat.le_refl _, heap_alloc_new w _, Nat.le_refl _, by decide, rfl, rfl⟩⟩
  have HB := Lib.hid hba
  obtain ⟨xs, hxs⟩ : ∃ xs, endsT l t = xs := ⟨_, rfl⟩
  have HEL : Hid (xs.length ≤ 1000) := Lib.hid (by rw [← hxs]; have := ends_len l t; have := hf.1; omega)
  have HT5 : ticksS l t = t :: xs := by unfold ticksS; rw [hxs]
  rw [HT5]
  have HXS := Lib.hid hxs
  clear hl hf hba hxs HT5
  go_enter Tryd.func12, Tryd.ntmps12
  go_wp2_with fail
  refine (h10_ends HD TA.out HF.out HXS.out).mono ?_
  rintro e w2 ⟨⟨A5, c5, rfl, hr5, hn5, hc5⟩, hb⟩
  have HO2 : Hid (ON EI 1 2 w (.slice (some ⟨w.heap.size, 0, none⟩) 1 1) [t] w2) := Lib.hid ((own_on HOW.out HB.out).next ei_steady hb)
  have HR5 := Lib.hid hr5
  have HN5 := Lib.hid hn5
  clear hr5 hn5 hc5 hb HOW
  obtain ⟨L, hL⟩ : ∃ L, xs.length = L := ⟨_, rfl⟩
  have HLL := Lib.hid hL
  have hl1 : L ≤ 1000 := by rw [← hL]; exact HEL.out
  rw [hL] at HR5 ⊢
  clear hL HEL
  have HOW := Lib.hid (on_own HO2.out)
  go_wp2_with (at_builtin; refine wpList_append_RI _ rfl (.tmp 6) (.tmp 9) 42 rfl w.heap.size 2 i0 (.int .i64 0) 8 Tryd.underlying42 hi0 hz0 hz1 hz2 rfl (.slice (some ⟨w.heap.size, 0, none⟩) 1 1) 1 [.int .i64 t] rfl HOW.out.1 _ A5 L c5 xs rfl HR5.out HN5.out (by unfold maxLen; omega) (by omega) HOW.out.2.size ?_; intro v' w4 hown hgrow; refine Hid.out ?_)
  refine Lib.hid ?_
  have HP : Hid (IPost (t :: xs) w (.returned v') w4) := Lib.hid (ON.ipost (own_on (by
    have h := hown
    rw [← HLL.out, Nat.add_comm] at h
    exact h) (HOW.out.2.grown hgrow HOW.out.2.size (by intro k hk; have hk' : w.heap.size = k := (by simpa [Value.ownBlock] using hk); omega))))
  clear hown hgrow HOW HO2 HR5 HN5
  go_wp2
  go_ret
  exact HP.out

end Go.Proofs.YtpoalgkgomljmaaDoor

namespace Go.Proofs.YtpoalgkgomljmaaDoor
open Go.RowKit

theorem ticks_i64 {l : Tb} {t : Int} (hr : rightT l = true) (ht : I64 t) : ∀ x ∈ ticksS l t, I64 x := fun x hx => by
  unfold ticksS at hx
  rcases List.mem_cons.1 hx with e | e
  · rw [e]; exact ht
  · obtain ⟨_, y, hy, e2⟩ := (mem_endsT hr).1 e
    have := (rightT_is.1 hr).may y hy
    have h1 := this.2.2
    unfold I64; omega
set_option maxRecDepth 100000 in
set_option maxHeartbeats 8000000 in
theorem slotFirst_w (HD : HeldOk) {A A2 A3 : Option Addr} {n c n2 c2 n3 c3 : Nat} {g : Gr} {use : List Int} {l : Tb} {s : Sp} {t u : Int} {w : World} (hg : GAsk w A n c g) (hu : LAsk w A2 n2 c2 use) (hl : TAsk w A3 n3 c3 l) (hf : FewT l) (hs : SAsk s) (ht : I64 t) (hv : I64 u) (hG : Glob w) (hr : rightT l = false) : Calls Tryd.prog 8 #[.slice A n c, .slice A2 n2 c2, .slice A3 n3 c3, .agg #[.int .i64 s.nodes, .int .i64 s.cores, .int .i64 s.gpus, .string s.tag, .bool s.whole, .int .i64 s.long, .int .i64 s.prio], .int .i64 t, .int .i64 u] w (FTPost 0 [] false w) := by
  have hba : Below w.heap.size w (w.alloc (.cells #[.int .i64 s.nodes, .int .i64 s.cores, .int .i64 s.gpus, .string s.tag, .bool s.whole, .int .i64 s.long, .int .i64 s.prio] 26)) := (Below.refl _ _).alloc (Nat.le_refl _) _
  have HB := Lib.hid hba
  have HG := Lib.hid (hG.next hba)
  have GA := Lib.hid (hg.next hba)
  have UA := Lib.hid (hu.next hba)
  have TA := Lib.hid (hl.next hba)
  have BS : Hid (BoxS (w.alloc (.cells #[.int .i64 s.nodes, .int .i64 s.cores, .int .i64 s.gpus, .string s.tag, .bool s.whole, .int .i64 s.long, .int .i64 s.prio] 26)) w.heap.size s) := Lib.hid (box_new w s)
  have HF := Lib.hid hf
  have HS := Lib.hid hs
  have HV := Lib.hid hv
  have HR := Lib.hid hr
  have _u := ht
  clear _u hba hG hg hu hl hf hs ht hv hr
  go_enter Tryd.func8, Tryd.ntmps8
  go_wp2_with fail
  refine (h10_right HD TA.out HF.out HR.out).mono ?_
  rintro e w1 ⟨rfl, hb⟩
  have HBq := Lib.hid (HB.out.trans (hb.mono HB.out.size))
  clear HB
  have HB := HBq
  clear HBq
  have HGq := Lib.hid (HG.out.next hb)
  clear HG
  have HG := HGq
  clear HGq
  have GAq := Lib.hid (GA.out.next hb)
  clear GA
  have GA := GAq
  clear GAq
  have UAq := Lib.hid (UA.out.next hb)
  clear UA
  have UA := UAq
  clear UAq
  have TAq := Lib.hid (TA.out.next hb)
  clear TA
  have TA := TAq
  clear TAq
  have BSq := Lib.hid (BS.out.next hb)
  clear BS
  have BS := BSq
  clear BSq
  clear hb
  go_wp2
  go_ret3
  exact ⟨⟨none, 0, rfl, RI.nil, fun _ => rfl, Nat.le_refl _⟩, HB.out⟩
set_option maxRecDepth 100000 in
set_option maxHeartbeats 8000000 in
theorem slotFirst_y (HD : HeldOk) (HM : MatchOk) (HSP : SpecOk) {A A2 A3 : Option Addr} {n c n2 c2 n3 c3 : Nat} {g : Gr} {use : List Int} {l : Tb} {s : Sp} {t u : Int} {w : World} (hg : GAsk w A n c g) (hu : LAsk w A2 n2 c2 use) (hl : TAsk w A3 n3 c3 l) (hf : FewT l) (hs : SAsk s) (ht : I64 t) (hv : I64 u) (hG : Glob w) (hr : rightT l = true) : Calls Tryd.prog 8 #[.slice A n c, .slice A2 n2 c2, .slice A3 n3 c3, .agg #[.int .i64 s.nodes, .int .i64 s.cores, .int .i64 s.gpus, .string s.tag, .bool s.whole, .int .i64 s.long, .int .i64 s.prio], .int .i64 t, .int .i64 u] w (FTPost (firstAtS g use l s t u) (firstLS g use l s t u) (firstBS g use l s t u) w) := by
  have hba : Below w.heap.size w (w.alloc (.cells #[.int .i64 s.nodes, .int .i64 s.cores, .int .i64 s.gpus, .string s.tag, .bool s.whole, .int .i64 s.long, .int .i64 s.prio] 26)) := (Below.refl _ _).alloc (Nat.le_refl _) _
  have HB := Lib.hid hba
  have HG := Lib.hid (hG.next hba)
  have GA := Lib.hid (hg.next hba)
  have UA := Lib.hid (hu.next hba)
  have TA := Lib.hid (hl.next hba)
  have BS : Hid (BoxS (w.alloc (.cells #[.int .i64 s.nodes, .int .i64 s.cores, .int .i64 s.gpus, .string s.tag, .bool s.whole, .int .i64 s.long, .int .i64 s.prio] 26)) w.heap.size s) := Lib.hid (box_new w s)
  have HF := Lib.hid hf
  have HS := Lib.hid hs
  have HV := Lib.hid hv
  have HR := Lib.hid hr
  obtain ⟨ts, hts⟩ : ∃ x, ticksS l t = x := ⟨_, rfl⟩
  have HTS := Lib.hid hts
  have HTI : Hid (∀ x ∈ ts, I64 x) := Lib.hid (by rw [← hts]; exact ticks_i64 hr ht)
  have hlen : ts.length ≤ 101 := by rw [← hts]; have := @ticks_len l t; have := hf.1; omega
  have HFI : Hid (∀ k, k < ts.length → (∀ j, j < k → ¬ FitsS g use l s u (ts.getD j 0)) → FitsS g use l s u (ts.getD k 0) → firstS g use l s t u = some (ts.getD k 0)) := Lib.hid (by rw [← hts]; exact fun k hk h1 h2 => tick_first hr hk h1 h2)
  have HFN : Hid ((∀ j, j < ts.length → ¬ FitsS g use l s u (ts.getD j 0)) → firstS g use l s t u = none) := Lib.hid (by rw [← hts]; exact fun h => tick_none hr h)
  obtain ⟨r1, hr1⟩ : ∃ r, firstAtS g use l s t u = r := ⟨_, rfl⟩
  obtain ⟨r2, hr2⟩ : ∃ r, firstLS g use l s t u = r := ⟨_, rfl⟩
  obtain ⟨r3, hr3⟩ : ∃ r, firstBS g use l s t u = r := ⟨_, rfl⟩
  have HRES := Lib.hid (show firstAtS g use l s t u = r1 ∧ firstLS g use l s t u = r2 ∧ firstBS g use l s t u = r3 from ⟨hr1, hr2, hr3⟩)
  rw [hr1, hr2, hr3]
  clear hba hG hg hu hl hf hs ht hv hr hts hr1 hr2 hr3
  go_enter Tryd.func8, Tryd.ntmps8
  go_wp2_with fail
  refine (h10_right HD TA.out HF.out HR.out).mono ?_
  rintro e w1 ⟨rfl, hb⟩
  have HBq := Lib.hid (HB.out.trans (hb.mono HB.out.size))
  clear HB
  have HB := HBq
  clear HBq
  have HGq := Lib.hid (HG.out.next hb)
  clear HG
  have HG := HGq
  clear HGq
  have GAq := Lib.hid (GA.out.next hb)
  clear GA
  have GA := GAq
  clear GAq
  have UAq := Lib.hid (UA.out.next hb)
  clear UA
  have UA := UAq
  clear UAq
  have TAq := Lib.hid (TA.out.next hb)
  clear TA
  have TA := TAq
  clear TAq
  have BSq := Lib.hid (BS.out.next hb)
  clear BS
  have BS := BSq
  clear BSq
  clear hb
  go_wp2_with fail
  refine (calls_ipost (slotTimes_any HD _ _ _ _ _ _ TA.out HF.out) HTS.out).mono ?_
  rintro e w2 ⟨⟨A5, c5, rfl, hr5, _, _⟩, hb⟩
  have HBq := Lib.hid (HB.out.trans (hb.mono HB.out.size))
  clear HB
  have HB := HBq
  clear HBq
  have HGq := Lib.hid (HG.out.next hb)
  clear HG
  have HG := HGq
  clear HGq
  have GAq := Lib.hid (GA.out.next hb)
  clear GA
  have GA := GAq
  clear GAq
  have UAq := Lib.hid (UA.out.next hb)
  clear UA
  have UA := UAq
  clear UAq
  have TAq := Lib.hid (TA.out.next hb)
  clear TA
  have TA := TAq
  clear TAq
  have BSq := Lib.hid (BS.out.next hb)
  clear BS
  have BS := BSq
  clear BSq
  clear hb
  have TS := Lib.hid hr5
  clear hr5
  obtain ⟨L, hL⟩ : ∃ L, ts.length = L := ⟨_, rfl⟩
  have HLL := Lib.hid hL
  rw [hL] at TS hlen ⊢
  clear hL
  go_wp2_with fail
  go_loopw [26] (fun iv wr => ∃ k : Nat, k ≤ L ∧ iv = .int .i64 k ∧ (∀ j, j < k → ¬ FitsS g use l s u (ts.getD j 0)) ∧ Below w2.heap.size w2 wr) (fun iv _ => L - (intOf iv).toNat)
  case atStart => exact ⟨0, Nat.zero_le _, rfl, fun j hj => by omega, Below.refl _ _⟩
  case round =>
    obtain ⟨k, hk, rfl, hno, hbel⟩ := hrel
    have HNO := Lib.hid hno
    have HB4 := Lib.hid (HB.out.trans (hbel.mono HB.out.size))
    have HG4 := Lib.hid (HG.out.next hbel)
    have GA4 := Lib.hid (GA.out.next hbel)
    have UA4 := Lib.hid (UA.out.next hbel)
    have TA4 := Lib.hid (TA.out.next hbel)
    have BS4 := Lib.hid (BS.out.next hbel)
    have TS4 := Lib.hid (TS.out.next hbel)
    have HBL := Lib.hid hbel
    clear hno hbel
    by_cases hlt : k < L
    · obtain ⟨bt, offt, hA5, hbt, ck⟩ := TS4.out.one hlt
      subst hA5
      obtain ⟨x, hx⟩ : ∃ x, ts.getD k 0 = x := ⟨_, rfl⟩
      have HXI : Hid (I64 x) := Lib.hid (HTI.out x (by
        have h1 : k < ts.length := by rw [HLL.out]; exact hlt
        rw [← hx, List.getD, List.getElem?_eq_getElem h1]; exact List.getElem_mem h1))
      have HX := Lib.hid hx
      rw [hx] at ck
      clear hx
      have HC := Lib.hid (slotAt_any (t := x) (u := u) HD HM HSP GA4.out UA4.out TA4.out HF.out HS.out HXI.out HV.out HG4.out HR.out)
      cases hf : decide (FitsS g use l s u x) with
      | true =>
        rw [hf] at HC
        have HZ : Hid (r1 = x ∧ r2 = gotS g use l s u x ∧ r3 = true) := Lib.hid (by
          have h1 := HFI.out k (by rw [HLL.out]; exact hlt) HNO.out (by rw [HX.out]; exact of_decide_eq_true hf)
          rw [HX.out] at h1
          have h2 := first_some h1
          rw [HRES.out.1, HRES.out.2.1, HRES.out.2.2] at h2
          exact h2)
        obtain ⟨gl, hgl⟩ : ∃ y, gotS g use l s u x = y := ⟨_, rfl⟩
        rw [hgl] at HC HZ
        clear hf hgl
        have q0 := BS4.out.c0
        have q1 := BS4.out.c1
        have q2 := BS4.out.c2
        have q3 := BS4.out.c3
        have q4 := BS4.out.c4
        have q5 := BS4.out.c5
        have q6 := BS4.out.c6
        go_wp2_with fail
        refine HC.out.mono ?_
        rintro e w7 ⟨⟨A7, c7, rfl, hr7, hn7, hc7⟩, hb⟩
        have R7 := Lib.hid hr7
        have N7 := Lib.hid hn7
        have C7 := Lib.hid hc7
        have HBZ := Lib.hid (HB4.out.trans (hb.mono HB4.out.size))
        clear q0 q1 q2 q3 q4 q5 q6
        clear hr7 hn7 hc7 hb ck hbt HC
        go_wp2
        go_ret3
        rw [HZ.out.1, HZ.out.2.1, HZ.out.2.2]
        exact ⟨⟨A7, c7, rfl, R7.out, N7.out, C7.out⟩, HBZ.out⟩
      | false =>
        rw [hf] at HC
        have HN : Hid (∀ j, j < k + 1 → ¬ FitsS g use l s u (ts.getD j 0)) := Lib.hid (fun j hj => by
          by_cases hjk : j = k
          · rw [hjk, HX.out]; exact of_decide_eq_false hf
          · exact HNO.out j (by omega))
        clear hf
        have q0 := BS4.out.c0
        have q1 := BS4.out.c1
        have q2 := BS4.out.c2
        have q3 := BS4.out.c3
        have q4 := BS4.out.c4
        have q5 := BS4.out.c5
        have q6 := BS4.out.c6
        go_wp2_with fail
        refine HC.out.mono ?_
        rintro e w7 ⟨⟨A7, c7, rfl, _, _, _⟩, hb⟩
        have HBZ := Lib.hid (HBL.out.trans (hb.mono HBL.out.size))
        clear q0 q1 q2 q3 q4 q5 q6
        clear hb ck hbt HC
        go_wp2
        go_roundw
        case rel => exact ⟨k + 1, by omega, by go_num, HN.out, HBZ.out⟩
        case measure => simp [intOf] <;> omega
    · have HZ : Hid (r1 = 0 ∧ r2 = [] ∧ r3 = false) := Lib.hid (by
        have h1 := first_none (HFN.out fun j hj => HNO.out j (by rw [HLL.out] at hj; omega))
        rw [HRES.out.1, HRES.out.2.1, HRES.out.2.2] at h1
        exact h1)
      go_wp2
      go_ret3
      rw [HZ.out.1, HZ.out.2.1, HZ.out.2.2]
      exact ⟨⟨none, 0, rfl, RI.nil, fun _ => rfl, Nat.le_refl _⟩, HB4.out⟩
theorem slotFirst_any (HD : HeldOk) (HM : MatchOk) (HSP : SpecOk) {A A2 A3 : Option Addr} {n c n2 c2 n3 c3 : Nat} {g : Gr} {use : List Int} {l : Tb} {s : Sp} {t u : Int} {w : World} (hg : GAsk w A n c g) (hu : LAsk w A2 n2 c2 use) (hl : TAsk w A3 n3 c3 l) (hf : FewT l) (hs : SAsk s) (ht : I64 t) (hv : I64 u) (hG : Glob w) : Calls Tryd.prog 8 #[.slice A n c, .slice A2 n2 c2, .slice A3 n3 c3, .agg #[.int .i64 s.nodes, .int .i64 s.cores, .int .i64 s.gpus, .string s.tag, .bool s.whole, .int .i64 s.long, .int .i64 s.prio], .int .i64 t, .int .i64 u] w (FTPost (firstAtS g use l s t u) (firstLS g use l s t u) (firstBS g use l s t u) w) := by
  cases hr : rightT l with
  | true => exact slotFirst_y HD HM HSP hg hu hl hf hs ht hv hG hr
  | false =>
    obtain ⟨e1, e2, e3⟩ := first_none (first_wrong (g := g) (use := use) (s := s) (t := t) (u := u) hr)
    rw [e1, e2, e3]
    exact slotFirst_w HD hg hu hl hf hs ht hv hG hr

end Go.Proofs.YtpoalgkgomljmaaDoor
