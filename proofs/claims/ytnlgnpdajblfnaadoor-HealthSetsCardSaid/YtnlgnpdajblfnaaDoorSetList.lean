/- What the words of a set list: the numbers of the set, rising, in new memory; the table of trailing zeros as Go's text lays it. -/
import Derived.Test.YtnlgnpdajblfnaaDoorSetPack
import Derived.Test.YtnlgnpdajblfnaaDoorShelfTz
namespace Go.Proofs.YtnlgnpdajblfnaaDoor
open Go.RowKit
open Go.Shelf

theorem tz_any (x : Nat) (hx : U64 x) (w : World) (hT : TabAt 0 Lib.deBruijn64tab w) :
    Calls Tryd.prog 38 #[.int .u64 x] w fun e w' => e = .returned (.int .i64 (Lib.ctz 64 x)) ∧ w = w' :=
  (Tryd.tz64 x hx w (fun _ => hT)).mono fun _ _ ⟨h1, h2⟩ => ⟨h1, h2.symm⟩
theorem tab_below {B : Nat} {w w' : World} (h : TabAt 0 Lib.deBruijn64tab w) (hb : Below B w w') (hB : 0 < B) : TabAt 0 Lib.deBruijn64tab w' := fun j hj =>
  (hb.cell (p := ⟨0, j, none⟩) hB).trans (h j hj)
theorem tab_alloc {w : World} (h : TabAt 0 Lib.deBruijn64tab w) (hB : 0 < w.heap.size) (o : Obj) : TabAt 0 Lib.deBruijn64tab (w.alloc o) :=
  tab_below h (Below.alloc (Below.refl w.heap.size w) (Nat.le_refl _) o) hB
theorem pred64 {x : Nat} (hx : U64 x) (h0 : 0 < x) : bits .and .u64 (x : Int) (IntKind.u64.wrap ((x : Int) - 1)) = ((x &&& (x - 1) : Nat) : Int) := by
  have hx' : x < 18446744073709551616 := hx
  have e : IntKind.u64.wrap ((x : Int) - 1) = ((x - 1 : Nat) : Int) := by rw [IntKind.wrap_u64]; omega
  rw [e]
  exact u64_and_nat x (x - 1) hx (by omega)

/-- where the inner loop stands in word i -/
def ListRel (p : Int → Bool) (w : World) (B : Nat) (i : Nat) (v x : Value) (wr : World) : Prop :=
  ∃ t : Nat, t ≤ 64 ∧ x = .int .u64 (wordFrom p i t) ∧ wr.ownsRow B 3 1 v (pickN p 0 (64 * i + t)).length ((pickN p 0 (64 * i + t)).map (Value.int .i64)) ∧ Below B w wr

theorem pickN_len (p : Int → Bool) (k : Nat) : (pickN p 0 k).length ≤ k := length_pickN p k 0

theorem run_ix0 (a0 a1 a2 a3 : Nat) (W : World) : (Instr.index 43 (.agg #[.int .u64 a0, .int .u64 a1, .int .u64 a2, .int .u64 a3]) (.int .i64 0)).run Tryd.prog W = .ok (.int .u64 a0) W := by
  simp [Instr.index, run_underlying Tryd.underlying43, asIntOf, part, isAgg, run_underlying Tryd.underlying41, Tryd.sizeOf41]
theorem run_ix1 (a0 a1 a2 a3 : Nat) (W : World) : (Instr.index 43 (.agg #[.int .u64 a0, .int .u64 a1, .int .u64 a2, .int .u64 a3]) (.int .i64 1)).run Tryd.prog W = .ok (.int .u64 a1) W := by
  simp [Instr.index, run_underlying Tryd.underlying43, asIntOf, part, isAgg, run_underlying Tryd.underlying41, Tryd.sizeOf41]
theorem run_ix2 (a0 a1 a2 a3 : Nat) (W : World) : (Instr.index 43 (.agg #[.int .u64 a0, .int .u64 a1, .int .u64 a2, .int .u64 a3]) (.int .i64 2)).run Tryd.prog W = .ok (.int .u64 a2) W := by
  simp [Instr.index, run_underlying Tryd.underlying43, asIntOf, part, isAgg, run_underlying Tryd.underlying41, Tryd.sizeOf41]
theorem run_ix3 (a0 a1 a2 a3 : Nat) (W : World) : (Instr.index 43 (.agg #[.int .u64 a0, .int .u64 a1, .int .u64 a2, .int .u64 a3]) (.int .i64 3)).run Tryd.prog W = .ok (.int .u64 a3) W := by
  simp [Instr.index, run_underlying Tryd.underlying43, asIntOf, part, isAgg, run_underlying Tryd.underlying41, Tryd.sizeOf41]

theorem run_ixk {p : Int → Bool} {a0 a1 a2 a3 : Nat} (h : Four p a0 a1 a2 a3) (k : Nat) (hk : k < 4) (W : World) :
    (Instr.index 43 (.agg #[.int .u64 a0, .int .u64 a1, .int .u64 a2, .int .u64 a3]) (.int .i64 (k : Int))).run Tryd.prog W = .ok (.int .u64 (wordFrom p k 0 : Nat)) W := by
  obtain ⟨rfl, rfl, rfl, rfl⟩ := h
  rw [wordFrom_zero]
  have hk' : k = 0 ∨ k = 1 ∨ k = 2 ∨ k = 3 := by omega
  rcases hk' with rfl | rfl | rfl | rfl
  · exact run_ix0 _ _ _ _ W
  · exact run_ix1 _ _ _ _ W
  · exact run_ix2 _ _ _ _ W
  · exact run_ix3 _ _ _ _ W

/-- what an append leaves of the relation -/
theorem list_step {p : Int → Bool} {w wr w1 : World} {v v' : Value} {k t : Nat} {o : Obj} (hne : wordFrom p k t ≠ 0) (hb : Below w.heap.size w wr)
    (hown : wr.ownsRow w.heap.size 3 1 v (pickN p 0 (64 * k + t)).length ((pickN p 0 (64 * k + t)).map (Value.int .i64)))
    (hown' : w1.ownsRow w.heap.size 3 1 v' ((pickN p 0 (64 * k + t)).length + 1) ((pickN p 0 (64 * k + t)).map (Value.int .i64) ++ [.int .i64 ((k : Int) * 64 + (Lib.ctz 64 (wordFrom p k t) : Nat))])) (hgrow : (wr.alloc o).grownBy w1 v.ownBlock) :
    ListRel p w w.heap.size k v' (.int .u64 (wordFrom p k t &&& (wordFrom p k t - 1) : Nat)) w1 := by
  obtain ⟨h1, h2, h3, h4, h5⟩ := wordFrom_next hne
  have ht := wordFrom_take hne
  refine ⟨Lib.ctz 64 (wordFrom p k t) + 1, by omega, by rw [h5], ?_, ?_⟩
  · rw [ht, List.length_append, List.map_append]
    have e : (((64 * k + Lib.ctz 64 (wordFrom p k t) : Nat) : Int)) = (k : Int) * 64 + (Lib.ctz 64 (wordFrom p k t) : Nat) := by
      generalize Lib.ctz 64 (wordFrom p k t) = c
      omega
    rw [e]
    exact hown'
  · exact (hb.alloc hb.size o).grown hgrow (by have := hb.size; simp; omega) (fun j hj => (hown.lt j hj).1)

set_option maxHeartbeats 2000000 in
theorem list_any (p : Int → Bool) (a0 a1 a2 a3 : Nat) (h4 : Four p a0 a1 a2 a3) (w : World) (hT : TabAt 0 Lib.deBruijn64tab w) (hB : 0 < w.heap.size) :
    Calls Tryd.prog 27 #[.agg #[.int .u64 a0, .int .u64 a1, .int .u64 a2, .int .u64 a3]] w fun e w' =>
      (∃ v, e = .returned v ∧ w'.ownsRow w.heap.size 3 1 v (pickL p).length ((pickL p).map (Value.int .i64))) ∧ Below w.heap.size w w' := by
  obtain ⟨i0, hi, hz0, hz1, hz2⟩ := info_parts int_info
  have H4 := Lib.hid h4
  have HTAB := Lib.hid hT
  clear h4 hT
  have x0 := run_ix0 a0 a1 a2 a3
  have x1 := run_ix1 a0 a1 a2 a3
  have x2 := run_ix2 a0 a1 a2 a3
  have x3 := run_ix3 a0 a1 a2 a3
  go_enter Tryd.func27, Tryd.ntmps27
  go_wp2
  refine wp_loop_rounds 6 ?_
  rw [rounds_succ]
  go_wp2_with (go_at_call 37; refine (count_any _ _).mono ?_; rintro e w' ⟨⟨n0, hn0, rfl⟩, rfl⟩)
  rw [rounds_succ]
  go_wp2_with (go_at_call 37; refine (count_any _ _).mono ?_; rintro e w' ⟨⟨n1, hn1, rfl⟩, rfl⟩)
  rw [rounds_succ]
  go_wp2_with (go_at_call 37; refine (count_any _ _).mono ?_; rintro e w' ⟨⟨n2, hn2, rfl⟩, rfl⟩)
  rw [rounds_succ]
  go_wp2_with (go_at_call 37; refine (count_any _ _).mono ?_; rintro e w' ⟨⟨n3, hn3, rfl⟩, rfl⟩)
  rw [rounds_succ]
  go_wp2_with (at_make; refine wpList_make_own _ rfl _ _ 23 rfl w.heap.size 3 i0 (.int .i64 0) 1 Tryd.underlying23 hi hz0 hz1 .i64 .i64 _ (n0 + n1 + n2 + n3) rfl rfl (by omega) (by rw [hz2]; omega) (by unfold maxLen; omega) (by simp) ?_; intro w1 hown1 hgrow1; refine Hid.out ?_)
  refine Lib.hid ?_
  have hb1 : Below w.heap.size w w1 := (Below.alloc (Below.refl _ w) (Nat.le_refl _) _).grown hgrow1 (by simp) (fun k hk => by cases hk)
  have hc1 : ∀ i v, (w.alloc (.cells #[.int .u64 a0, .int .u64 a1, .int .u64 a2, .int .u64 a3] 43)).cell? ⟨w.heap.size, i, none⟩ = some v → w1.cell? ⟨w.heap.size, i, none⟩ = some v := fun i v h => hgrow1.cell h (by simp)
  have c0 := hc1 0 (.int .u64 a0) (by go_simp)
  have c1 := hc1 1 (.int .u64 a1) (by go_simp)
  have c2 := hc1 2 (.int .u64 a2) (by go_simp)
  have c3 := hc1 3 (.int .u64 a3) (by go_simp)
  clear hc1 hgrow1 hn0 hn1 hn2 hn3 x0 x1 x2 x3
  go_wp2
  clear c0 c1 c2 c3
  go_loopw [6, 21] (fun v i wr => ∃ k : Nat, k ≤ 4 ∧ i = .int .i64 k ∧ wr.ownsRow w.heap.size 3 1 v (pickN p 0 (64 * k)).length ((pickN p 0 (64 * k)).map (Value.int .i64)) ∧ Below w.heap.size w wr) (fun _ i _ => 4 - (intOf i).toNat)
  case atStart => exact ⟨0, by omega, rfl, by simp at hown1; exact hown1, hb1⟩
  case round =>
    obtain ⟨k, hk, rfl, hownk, hbk⟩ := hrel
    clear hown1 hb1
    by_cases hk4 : k < 4
    · have hix := run_ixk H4.out k hk4
      have hd4 : decide ((k : Int) < 4) = true := by simp; omega
      go_wp2
      clear hix
      go_loopw [6, 8] (fun v x wr => ListRel p w w.heap.size k v x wr) (fun _ x _ => (intOf x).toNat)
      case atStart => exact ⟨0, by omega, rfl, hownk, hbk⟩
      case round =>
        obtain ⟨t, ht, rfl, hown, hb⟩ := hrel
        clear hownk hbk
        by_cases hx : wordFrom p k t = 0
        · have hdone := Lib.hid (wordFrom_done ht hx)
          rw [hx]
          go_wp2
          go_roundw
          case rel => exact ⟨k + 1, by omega, by go_num, by rw [← hdone.out]; exact hown, hb⟩
          case measure => simp [intOf]; omega
        · have HX := Lib.hid hx
          have hx0 : 0 < wordFrom p k t := by omega
          have hlen := pickN_len p (64 * k + t)
          have hc64 := (wordFrom_next hx).1
          have hp := pred64 (wordFrom_lt p k t) hx0
          have hstep := Lib.hid (fun w1 v' o a b => @list_step p w wr w1 _ v' k t o hx hb hown a b)
          clear hx
          have hkk : k < 4 := hk4
          generalize hX : wordFrom p k t = x at *
          have HXX := Lib.hid hX
          clear hX
          have hxu : Hid (U64 x) := Lib.hid (by have := wordFrom_lt p k t; rw [HXX.out] at this; exact this)
          generalize hL : pickN p 0 (64 * k + t) = L at *
          have HL := Lib.hid hL
          clear hL
          go_wp2_with (first
            | (go_at_call 38; refine (tz_any x hxu.out _ (tab_below HTAB.out hb hB)).mono ?_; rintro e w' ⟨rfl, rfl⟩)
            | (at_builtin; refine wpList_append_own _ rfl (.tmp 27) (.tmp 33) 23 rfl w.heap.size 3 i0 (.int .i64 0) 1 8 Tryd.underlying23 hi hz0 hz1 hz2 rfl (by decide) _ _ _ rfl (hown.alloc _) ⟨wr.heap.size, 0, none⟩ 1 1 [.int .i64 ((k : Int) * 64 + (Lib.ctz 64 x : Nat))] rfl rfl ?c1 ?c2 ?c3 ?c4 ?c5 ?_))
          case c1 =>
            intro j u hj
            match j, hj with
            | 0, hj => simp at hj; subst hj; simp [Addr.add]
          case c2 => intro u hu; simp at hu; subst hu; rfl
          case c3 => unfold maxLen; omega
          case c4 => omega
          case c5 => have := hb.size; simp; omega
          intro v' w2 hown' hgrow _
          have R := Lib.hid (hstep.out w2 v' _ hown' hgrow)
          clear hown' hgrow
          go_wp2
          go_roundw
          case rel => exact R.out
          case measure =>
            simp only [intOf]
            have : x &&& (x - 1) ≤ x - 1 := Nat.and_le_right
            simp
            omega
    · have hkn : k = 4 := by omega
      subst hkn
      go_wp2
      go_ret
      exact ⟨⟨_, rfl, hownk⟩, hbk⟩

end Go.Proofs.YtnlgnpdajblfnaaDoor
