/- The fixed answers that each statement asks first are as they should be; the tables and the variable MaxLen of Go's library as its text lays them. -/
import Derived.Test.YtgifhbjcelkjkaaDoorSetAsks
import Derived.Test.YtgifhbjcelkjkaaDoorSetParseW
namespace Go.Proofs.YtgifhbjcelkjkaaDoor
open Go.RowKit Go.Shelf
attribute [local go_sem] alloc_drewN setCell_drewN

/-- what is taken of the library's variables -/
structure GlobOk (w : World) : Prop where
  size : 6 ≤ w.heap.size
  tz : TabAt 0 Lib.deBruijn64tab w
  ml : ∃ m, w.cell? ⟨1, 0, none⟩ = some (.int .i64 m)
  pow : Lib.TabIs Tryd.prog w "internal/strconv.uint64pow10" .u64 Lib.pow10Tab
theorem GlobOk.below {w w' : World} (h : GlobOk w) (hb : Below w.heap.size w w') : GlobOk w' :=
  ⟨Nat.le_trans h.size hb.size, tab_below h.tz hb (by have := h.size; omega), h.ml.elim fun m hm => ⟨m, (hb.cell (p := ⟨1, 0, none⟩) (by have := h.size; show 1 < w.heap.size; omega)).trans hm⟩, Lib.tabBelow_of_tabIs h.pow w' hb⟩

theorem awake1 : parseL [48, 45, 51, 44, 55] = ([0, 1, 2, 3, 7], 0) := by decide +kernel
theorem awake2 : showL [5, 6, 9] = [53, 45, 54, 44, 57] := by
  have h : parseL [53, 45, 54, 44, 57] = ([5, 6, 9], 0) := by decide +kernel
  have := (parseL_ok (t := [53, 45, 54, 44, 57]) (by rw [h])).2
  rwa [h] at this
theorem awake3 : (lessL [0, 1, 2, 3, 7] [0, 7]).length = 3 := by decide +kernel

theorem RI_lit3 (W : World) (a b c : Int) (t : TypeId) : RI (W.alloc (.cells #[.int .i64 a, .int .i64 b, .int .i64 c] t)) (W.heap.size + 1) (some ⟨W.heap.size, 0, none⟩) 3 [a, b, c] :=
  ⟨rfl, fun _ => ⟨W.heap.size, 0, rfl, by omega, fun j hj => by
    rw [World.cell?_alloc_at _ _ _ _ rfl]
    match j, hj with
    | 0, _ => rfl
    | 1, _ => rfl
    | 2, _ => rfl⟩⟩
theorem RI_lit2 (W : World) (a b : Int) (t : TypeId) : RI (W.alloc (.cells #[.int .i64 a, .int .i64 b] t)) (W.heap.size + 1) (some ⟨W.heap.size, 0, none⟩) 2 [a, b] :=
  ⟨rfl, fun _ => ⟨W.heap.size, 0, rfl, by omega, fun j hj => by
    rw [World.cell?_alloc_at _ _ _ _ rfl]
    match j, hj with
    | 0, _ => rfl
    | 1, _ => rfl⟩⟩
theorem RI_lit1 (W : World) (a : Int) (t : TypeId) : RI (W.alloc (.cells #[.int .i64 a] t)) (W.heap.size + 1) (some ⟨W.heap.size, 0, none⟩) 1 [a] :=
  ⟨rfl, fun _ => ⟨W.heap.size, 0, rfl, by omega, fun j hj => by
    rw [World.cell?_alloc_at _ _ _ _ rfl]
    match j, hj with
    | 0, _ => rfl⟩⟩

set_option maxHeartbeats 4000000 in
theorem awake_any (w : World) (hG : GlobOk w) : Calls Tryd.prog 9 #[] w fun e w' => e = .returned (.bool true) ∧ Below w.heap.size w w' := by
  have HG := Lib.hid hG
  clear hG
  obtain ⟨m, hm⟩ := HG.out.ml
  have hsz := HG.out.size
  go_enter Tryd.func9, Tryd.ntmps9
  go_wp2_with fail
  refine (parse_any ⟨#[48, 45, 51, 44, 55]⟩ m _ (by decide) (by omega) hm).mono ?_
  rintro e w1 ⟨⟨A, c, hc, he, hri⟩, hb⟩
  rw [show (⟨#[48, 45, 51, 44, 55]⟩ : ByteArray).data.toList = [48, 45, 51, 44, 55] from rfl, awake1] at hc he hri
  subst he
  simp only [List.length_cons, List.length_nil, Nat.zero_add, Nat.reduceAdd] at hri hc ⊢
  obtain ⟨b, off, rfl, hbB, hcell⟩ := hri.2 (by omega)
  have hc4 : w1.cell? ⟨b, off + 4, none⟩ = some (.int .i64 7) := hcell 4 (by omega)
  have HRI := Lib.hid hri
  have G1 := Lib.hid (HG.out.below hb)
  clear hcell hri
  go_wp2_with fail
  have hb2 := Below.alloc (Below.refl w1.heap.size w1) (Nat.le_refl _) (.cells #[.int .i64 5, .int .i64 6, .int .i64 9] 3)
  refine (show_any _ 3 3 [5, 6, 9] _ ((RI_lit3 w1 5 6 9 _).more (by simp)) (by decide) (by omega) ((G1.out.below hb2).pow)).mono ?_
  rintro e w2 ⟨rfl, hb3⟩
  have HS : ShowB [5, 6, 9] = ⟨#[53, 45, 54, 44, 57]⟩ := by
    unfold ShowB
    rw [if_pos (by decide +kernel), awake2]
  rw [HS]
  have hb4 : Below w1.heap.size w1 w2 := hb2.trans (hb3.mono (by simp))
  have G2 := Lib.hid (G1.out.below hb4)
  clear HS
  go_wp2_with fail
  refine (has_any _ _ _ [0, 1, 2, 3, 7] 2 _ ((HRI.out.below hb4).more hb4.size) (by decide)).mono ?_
  rintro e w3 ⟨rfl, hb5⟩
  rw [show hasB [0, 1, 2, 3, 7] 2 = true by decide +kernel]
  have hb6 : Below w1.heap.size w1 w3 := hb4.trans (hb5.mono hb4.size)
  have G3 := Lib.hid (G1.out.below hb6)
  go_wp2_with fail
  have hb7 := hb6.alloc hb6.size (.cells #[.int .i64 0, .int .i64 7] 3)
  refine (less_ops _ _ _ _ _ _ [0, 1, 2, 3, 7] [0, 7] _ ((HRI.out.below hb7).more hb7.size) ((RI_lit2 w3 0 7 _).more (by simp)) (by decide) (by decide) ((G1.out.below hb7).tz) (by have := (G1.out.below hb7).size; omega)).mono ?_
  rintro e w4 ⟨⟨A2, c2, hc2, rfl, hr2⟩, hb8⟩
  rw [awake3]
  go_wp2
  go_ret
  exact ⟨rfl, hb.trans (hb7.trans (hb8.mono hb7.size) |>.mono hb.size)⟩

end Go.Proofs.YtgifhbjcelkjkaaDoor
