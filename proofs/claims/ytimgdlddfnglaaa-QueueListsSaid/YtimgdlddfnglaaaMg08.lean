/- Plain facts that the statements of layer 12 ask for. Written by gen/gen_queuelaws.py. The fixed answers that the statements of layer 12 ask for first, as a walk over the contracts. Written by gen/gen_queuelaws.py. -/
import Derived.Test.YtimgdlddfnglaaaMg07
namespace Go.Proofs.Ytimgdlddfnglaaa
open Go.RowKit

theorem aw12_i (x : Int) (h1 : -100 ≤ x) (h2 : x ≤ 100) : I64 x := by unfold I64; omega
theorem aw12_1 : addQE [] ⟨1, 1, 0, ⟨#[]⟩, false, 1, 0⟩ [] 0 = 0 ∧ addQL [] ⟨1, 1, 0, ⟨#[]⟩, false, 1, 0⟩ [] 0 = [⟨1, ⟨1, 1, 0, ⟨#[]⟩, false, 1, 0⟩, [], 0, 0, 0, 0⟩] ∧ addN [] ⟨1, 1, 0, ⟨#[]⟩, false, 1, 0⟩ [] 0 = 1 := by
  have h : addQE [] ⟨1, 1, 0, ⟨#[]⟩, false, 1, 0⟩ [] 0 = 0 := by decide +kernel
  exact ⟨h, by unfold addQL; rw [if_pos h]; rfl, by unfold addN; rw [if_pos h]; rfl⟩
theorem aw12_2 : addQE [⟨1, ⟨1, 1, 0, ⟨#[]⟩, false, 1, 0⟩, [], 0, 0, 0, 0⟩] ⟨1, 1, 0, ⟨#[]⟩, false, 1, 0⟩ [1] 0 = 0 ∧ addQL [⟨1, ⟨1, 1, 0, ⟨#[]⟩, false, 1, 0⟩, [], 0, 0, 0, 0⟩] ⟨1, 1, 0, ⟨#[]⟩, false, 1, 0⟩ [1] 0 = [⟨1, ⟨1, 1, 0, ⟨#[]⟩, false, 1, 0⟩, [], 0, 0, 0, 0⟩, ⟨2, ⟨1, 1, 0, ⟨#[]⟩, false, 1, 0⟩, [1], 0, 0, 0, 0⟩] ∧ addN [⟨1, ⟨1, 1, 0, ⟨#[]⟩, false, 1, 0⟩, [], 0, 0, 0, 0⟩] ⟨1, 1, 0, ⟨#[]⟩, false, 1, 0⟩ [1] 0 = 2 := by
  have h : addQE [⟨1, ⟨1, 1, 0, ⟨#[]⟩, false, 1, 0⟩, [], 0, 0, 0, 0⟩] ⟨1, 1, 0, ⟨#[]⟩, false, 1, 0⟩ [1] 0 = 0 := by decide +kernel
  exact ⟨h, by unfold addQL; rw [if_pos h]; rfl, by unfold addN; rw [if_pos h]; rfl⟩
theorem aw12_3 : HasQ [⟨1, ⟨1, 1, 0, ⟨#[]⟩, false, 1, 0⟩, [], 0, 0, 0, 0⟩, ⟨2, ⟨1, 1, 0, ⟨#[]⟩, false, 1, 0⟩, [1], 0, 0, 0, 0⟩] 1 ∧ doQE [⟨1, ⟨1, 1, 0, ⟨#[]⟩, false, 1, 0⟩, [], 0, 0, 0, 0⟩, ⟨2, ⟨1, 1, 0, ⟨#[]⟩, false, 1, 0⟩, [1], 0, 0, 0, 0⟩] 1 6 1 = 0 ∧ doQ [⟨1, ⟨1, 1, 0, ⟨#[]⟩, false, 1, 0⟩, [], 0, 0, 0, 0⟩, ⟨2, ⟨1, 1, 0, ⟨#[]⟩, false, 1, 0⟩, [1], 0, 0, 0, 0⟩] 1 6 1 = [⟨1, ⟨1, 1, 0, ⟨#[]⟩, false, 1, 0⟩, [], 5, 0, 0, 1⟩, ⟨2, ⟨1, 1, 0, ⟨#[]⟩, false, 1, 0⟩, [1], 0, 0, 0, 0⟩] := by
  refine ⟨by decide +kernel, by decide +kernel, ?_⟩
  have h : doE ⟨1, ⟨1, 1, 0, ⟨#[]⟩, false, 1, 0⟩, [], 0, 0, 0, 0⟩ 6 1 = 0 := by decide +kernel
  show [doJ ⟨1, ⟨1, 1, 0, ⟨#[]⟩, false, 1, 0⟩, [], 0, 0, 0, 0⟩ 6 1, ⟨2, ⟨1, 1, 0, ⟨#[]⟩, false, 1, 0⟩, [1], 0, 0, 0, 0⟩] = _
  rw [doJ_ok h]; rfl
theorem aw12_r2 : RightQ [⟨1, ⟨1, 1, 0, ⟨#[]⟩, false, 1, 0⟩, [], 0, 0, 0, 0⟩, ⟨2, ⟨1, 1, 0, ⟨#[]⟩, false, 1, 0⟩, [1], 0, 0, 0, 0⟩] := by decide +kernel
theorem aw12_r : RightQ [⟨1, ⟨1, 1, 0, ⟨#[]⟩, false, 1, 0⟩, [], 5, 0, 0, 1⟩, ⟨2, ⟨1, 1, 0, ⟨#[]⟩, false, 1, 0⟩, [1], 0, 0, 0, 0⟩] := by decide +kernel
theorem aw12_lost : lostQ [⟨1, ⟨1, 1, 0, ⟨#[]⟩, false, 1, 0⟩, [], 5, 0, 0, 1⟩, ⟨2, ⟨1, 1, 0, ⟨#[]⟩, false, 1, 0⟩, [1], 0, 0, 0, 0⟩] = [2] := by
  unfold lostQ
  rw [if_pos aw12_r]
  have h1 : lostB [⟨1, ⟨1, 1, 0, ⟨#[]⟩, false, 1, 0⟩, [], 5, 0, 0, 1⟩, ⟨2, ⟨1, 1, 0, ⟨#[]⟩, false, 1, 0⟩, [1], 0, 0, 0, 0⟩] ⟨1, ⟨1, 1, 0, ⟨#[]⟩, false, 1, 0⟩, [], 5, 0, 0, 1⟩ = false := lostB_no.2 fun h => absurd h.state (by decide)
  have h2 : lostB [⟨1, ⟨1, 1, 0, ⟨#[]⟩, false, 1, 0⟩, [], 5, 0, 0, 1⟩, ⟨2, ⟨1, 1, 0, ⟨#[]⟩, false, 1, 0⟩, [1], 0, 0, 0, 0⟩] ⟨2, ⟨1, 1, 0, ⟨#[]⟩, false, 1, 0⟩, [1], 0, 0, 0, 0⟩ = true := lostB_iff.2 (.ended _ 0 (by decide) (by decide) (by decide +kernel))
  rw [List.filter_cons, if_neg (by rw [h1]; decide), List.filter_cons, if_pos h2]; rfl
theorem aw12_ready : readyQ [⟨1, ⟨1, 1, 0, ⟨#[]⟩, false, 1, 0⟩, [], 5, 0, 0, 1⟩, ⟨2, ⟨1, 1, 0, ⟨#[]⟩, false, 1, 0⟩, [1], 0, 0, 0, 0⟩] = [] := by decide +kernel
theorem aw12_counts : countsQ [⟨1, ⟨1, 1, 0, ⟨#[]⟩, false, 1, 0⟩, [], 5, 0, 0, 1⟩, ⟨2, ⟨1, 1, 0, ⟨#[]⟩, false, 1, 0⟩, [1], 0, 0, 0, 0⟩] 5 = 1 := by decide +kernel
theorem aw12_few : FewQ [⟨1, ⟨1, 1, 0, ⟨#[]⟩, false, 1, 0⟩, [], 5, 0, 0, 1⟩, ⟨2, ⟨1, 1, 0, ⟨#[]⟩, false, 1, 0⟩, [1], 0, 0, 0, 0⟩] ∧ FewQ [⟨1, ⟨1, 1, 0, ⟨#[]⟩, false, 1, 0⟩, [], 0, 0, 0, 0⟩] := ⟨by decide +kernel, by decide +kernel⟩
/-- a place of seven numbers -/
theorem run_ix7_5 (a0 a1 a2 a3 a4 a5 a6 : Int) (W : World) : (Instr.index 25 (.agg #[.int .i64 a0, .int .i64 a1, .int .i64 a2, .int .i64 a3, .int .i64 a4, .int .i64 a5, .int .i64 a6]) (.int .i64 5)).run Try.prog W = .ok (.int .i64 a5) W := rfl
theorem few_nil : FewQ [] := ⟨by decide, fun i hi => absurd hi (by simp)⟩

/-! seven numbers in a block: the counts of a beginning -/
def cntT (l : Qu) (k : Nat) (s : Int) : Int := (cntQ (l.take k) s : Int)
theorem cntT_zero (l : Qu) (s : Int) : cntT l 0 s = 0 := rfl
theorem cntT_step {l : Qu} {k : Nat} (hk : k < l.length) (s : Int) : cntT l (k + 1) s = if (jAt l k).state = s then cntT l k s + 1 else cntT l k s := by
  unfold cntT cntQ
  rw [List.take_succ_eq_append_getElem hk, List.filter_append, List.length_append, jAt_lt hk]
  by_cases h : l[k].state = s
  · rw [if_pos h, List.filter_cons, if_pos (by simpa using h)]; simp
  · rw [if_neg h, List.filter_cons, if_neg (by simpa using h)]; simp
theorem cntT_all {l : Qu} (h : RightQ l) (s : Int) : cntT l l.length s = countsQ l s := by
  unfold cntT countsQ; rw [if_pos h, List.take_length]
theorem counts_no {l : Qu} (h : ¬ RightQ l) (s : Int) : countsQ l s = 0 := if_neg h
theorem cntT_le (l : Qu) (k : Nat) (s : Int) : 0 ≤ cntT l k s ∧ cntT l k s ≤ k := by
  unfold cntT cntQ
  have h1 := List.length_filter_le (fun j : Jb => j.state == s) (l.take k)
  rw [List.length_take] at h1
  omega
theorem cnt_sum {l : Qu} (hr : RightQ l) : ∀ k, k ≤ l.length → cntT l k 0 + cntT l k 1 + cntT l k 2 + cntT l k 3 + cntT l k 4 + cntT l k 5 + cntT l k 6 = k := by
  intro k
  induction k with
  | zero => intro _; rfl
  | succ k ih =>
    intro hk
    have h1 := ih (by omega)
    have h2 := (hr.job (i := k) (by omega)).2.2.1.1
    have h3 := fun s => cntT_step (l := l) (k := k) (by omega) s
    rcases (show (jAt l k).state = 0 ∨ (jAt l k).state = 1 ∨ (jAt l k).state = 2 ∨ (jAt l k).state = 3 ∨ (jAt l k).state = 4 ∨ (jAt l k).state = 5 ∨ (jAt l k).state = 6 by omega) with e | e | e | e | e | e | e
    all_goals
      rw [h3 0, h3 1, h3 2, h3 3, h3 4, h3 5, h3 6, e]
      simp
      omega
theorem counts_sum {l : Qu} (hr : RightQ l) : countsQ l 0 + countsQ l 1 + countsQ l 2 + countsQ l 3 + countsQ l 4 + countsQ l 5 + countsQ l 6 = l.length := by
  have h := cnt_sum hr l.length (Nat.le_refl _)
  simp only [cntT_all hr] at h
  exact h
theorem counts_le {l : Qu} (hr : RightQ l) (s : Int) : 0 ≤ countsQ l s ∧ countsQ l s ≤ l.length := by
  rw [← cntT_all hr s]; exact cntT_le l _ s
def c7O (f : Int → Int) : Obj := .cells #[.int .i64 (f 0), .int .i64 (f 1), .int .i64 (f 2), .int .i64 (f 3), .int .i64 (f 4), .int .i64 (f 5), .int .i64 (f 6)] 25
structure BoxC (wr : World) (g : Nat) (f : Int → Int) : Prop where
  lt : g < wr.heap.size
  at' : wr.heap[g]? = some (c7O f)
section
variable {wr w' : World} {g : Nat} {f f' : Int → Int}
theorem BoxC.next (h : BoxC wr g f) (hb : Below wr.heap.size wr w') : BoxC w' g f := ⟨Nat.lt_of_lt_of_le h.lt hb.size, (hb.block _ h.lt).trans h.at'⟩
theorem boxC_new (w : World) (f : Int → Int) : BoxC (w.alloc (c7O f)) w.heap.size f := ⟨by simp, heap_alloc_new w _⟩
theorem BoxC.c0 (h : BoxC wr g f) : wr.cell? ⟨g, 0, none⟩ = some (.int .i64 (f 0)) := (cell_of_row wr g 0 _ _ (0, 0) h.at').trans rfl
theorem BoxC.c1 (h : BoxC wr g f) : wr.cell? ⟨g, 1, none⟩ = some (.int .i64 (f 1)) := (cell_of_row wr g 1 _ _ (0, 0) h.at').trans rfl
theorem BoxC.c2 (h : BoxC wr g f) : wr.cell? ⟨g, 2, none⟩ = some (.int .i64 (f 2)) := (cell_of_row wr g 2 _ _ (0, 0) h.at').trans rfl
theorem BoxC.c3 (h : BoxC wr g f) : wr.cell? ⟨g, 3, none⟩ = some (.int .i64 (f 3)) := (cell_of_row wr g 3 _ _ (0, 0) h.at').trans rfl
theorem BoxC.c4 (h : BoxC wr g f) : wr.cell? ⟨g, 4, none⟩ = some (.int .i64 (f 4)) := (cell_of_row wr g 4 _ _ (0, 0) h.at').trans rfl
theorem BoxC.c5 (h : BoxC wr g f) : wr.cell? ⟨g, 5, none⟩ = some (.int .i64 (f 5)) := (cell_of_row wr g 5 _ _ (0, 0) h.at').trans rfl
theorem BoxC.c6 (h : BoxC wr g f) : wr.cell? ⟨g, 6, none⟩ = some (.int .i64 (f 6)) := (cell_of_row wr g 6 _ _ (0, 0) h.at').trans rfl
theorem BoxC.frozen (h : BoxC wr g f) (k : Nat) : wr.frozen? ⟨g, k, none⟩ = false := frozen_of_row wr g k _ _ h.at'
theorem BoxC.ext (h : BoxC wr g f) (e : ∀ s, f s = f' s) : BoxC wr g f' := by rw [← funext e]; exact h
theorem BoxC.set0 (h : BoxC wr g f) (x : Int) (e : f' 0 = x) (he : ∀ s, s ≠ 0 → f' s = f s) : BoxC (wr.setCell ⟨g, 0, none⟩ (.int .i64 x)) g f' := by
  refine ⟨by simpa [World.setCell] using h.lt, ?_⟩
  show (wr.heap.modify g _)[g]? = _
  rw [Array.getElem?_modify, if_pos rfl, h.at']
  unfold c7O
  rw [e, he 1 (by decide), he 2 (by decide), he 3 (by decide), he 4 (by decide), he 5 (by decide), he 6 (by decide)]
  rfl
theorem BoxC.set1 (h : BoxC wr g f) (x : Int) (e : f' 1 = x) (he : ∀ s, s ≠ 1 → f' s = f s) : BoxC (wr.setCell ⟨g, 1, none⟩ (.int .i64 x)) g f' := by
  refine ⟨by simpa [World.setCell] using h.lt, ?_⟩
  show (wr.heap.modify g _)[g]? = _
  rw [Array.getElem?_modify, if_pos rfl, h.at']
  unfold c7O
  rw [e, he 0 (by decide), he 2 (by decide), he 3 (by decide), he 4 (by decide), he 5 (by decide), he 6 (by decide)]
  rfl
theorem BoxC.set2 (h : BoxC wr g f) (x : Int) (e : f' 2 = x) (he : ∀ s, s ≠ 2 → f' s = f s) : BoxC (wr.setCell ⟨g, 2, none⟩ (.int .i64 x)) g f' := by
  refine ⟨by simpa [World.setCell] using h.lt, ?_⟩
  show (wr.heap.modify g _)[g]? = _
  rw [Array.getElem?_modify, if_pos rfl, h.at']
  unfold c7O
  rw [e, he 0 (by decide), he 1 (by decide), he 3 (by decide), he 4 (by decide), he 5 (by decide), he 6 (by decide)]
  rfl
theorem BoxC.set3 (h : BoxC wr g f) (x : Int) (e : f' 3 = x) (he : ∀ s, s ≠ 3 → f' s = f s) : BoxC (wr.setCell ⟨g, 3, none⟩ (.int .i64 x)) g f' := by
  refine ⟨by simpa [World.setCell] using h.lt, ?_⟩
  show (wr.heap.modify g _)[g]? = _
  rw [Array.getElem?_modify, if_pos rfl, h.at']
  unfold c7O
  rw [e, he 0 (by decide), he 1 (by decide), he 2 (by decide), he 4 (by decide), he 5 (by decide), he 6 (by decide)]
  rfl
theorem BoxC.set4 (h : BoxC wr g f) (x : Int) (e : f' 4 = x) (he : ∀ s, s ≠ 4 → f' s = f s) : BoxC (wr.setCell ⟨g, 4, none⟩ (.int .i64 x)) g f' := by
  refine ⟨by simpa [World.setCell] using h.lt, ?_⟩
  show (wr.heap.modify g _)[g]? = _
  rw [Array.getElem?_modify, if_pos rfl, h.at']
  unfold c7O
  rw [e, he 0 (by decide), he 1 (by decide), he 2 (by decide), he 3 (by decide), he 5 (by decide), he 6 (by decide)]
  rfl
theorem BoxC.set5 (h : BoxC wr g f) (x : Int) (e : f' 5 = x) (he : ∀ s, s ≠ 5 → f' s = f s) : BoxC (wr.setCell ⟨g, 5, none⟩ (.int .i64 x)) g f' := by
  refine ⟨by simpa [World.setCell] using h.lt, ?_⟩
  show (wr.heap.modify g _)[g]? = _
  rw [Array.getElem?_modify, if_pos rfl, h.at']
  unfold c7O
  rw [e, he 0 (by decide), he 1 (by decide), he 2 (by decide), he 3 (by decide), he 4 (by decide), he 6 (by decide)]
  rfl
theorem BoxC.set6 (h : BoxC wr g f) (x : Int) (e : f' 6 = x) (he : ∀ s, s ≠ 6 → f' s = f s) : BoxC (wr.setCell ⟨g, 6, none⟩ (.int .i64 x)) g f' := by
  refine ⟨by simpa [World.setCell] using h.lt, ?_⟩
  show (wr.heap.modify g _)[g]? = _
  rw [Array.getElem?_modify, if_pos rfl, h.at']
  unfold c7O
  rw [e, he 0 (by decide), he 1 (by decide), he 2 (by decide), he 3 (by decide), he 4 (by decide), he 5 (by decide)]
  rfl
end
theorem run_eq7 (a0 a1 a2 a3 a4 a5 a6 : Int) (W : World) :
    (Op.equalIn 10000 25 (.agg #[.int .i64 a0, .int .i64 a1, .int .i64 a2, .int .i64 a3, .int .i64 a4, .int .i64 a5, .int .i64 a6]) (.agg #[.int .i64 a0, .int .i64 a1, .int .i64 a2, .int .i64 a3, .int .i64 a4, .int .i64 a5, .int .i64 a6])).run Try.prog W = .ok true W := by
  obtain ⟨i, hi⟩ : ∃ i, Try.prog.info? 3 = some i := by
    cases h : Try.prog.info? 3 with
    | none => exact absurd (show (Try.prog.info? 3).isSome = true by kernel_rfl) (by rw [h]; simp)
    | some i => exact ⟨i, rfl⟩
  have hc : Try.prog.cellsOf 3 = 1 := by kernel_rfl
  rw [show (10000 : Nat) = 9999 + 1 from rfl, run_equalIn_array W 9999 _ _ Try.underlying25 hi, hc]
  have hu := Try.underlying3
  have hs := fun a => run_equalIn_int (P := Try.prog) W 9998 3 .i64 .i64 a a hu
  rw [show List.range 7 = [0, 1, 2, 3, 4, 5, 6] from rfl]
  simp [Op.eqItems, part, isAgg, run_underlying hu, hs]

end Go.Proofs.Ytimgdlddfnglaaa

namespace Go.Proofs.Ytimgdlddfnglaaa
open Go.RowKit

theorem aw12_sask : SAsk ⟨1, 1, 0, ⟨#[]⟩, false, 1, 0⟩ := ⟨aw12_i _ (by decide) (by decide), aw12_i _ (by decide) (by decide), aw12_i _ (by decide) (by decide), Nat.zero_le _, aw12_i _ (by decide) (by decide), aw12_i _ (by decide) (by decide)⟩
theorem aw12_lit (w : World) (x : Int) (hx : I64 x) : MAsk (w.alloc (.cells #[.int .i64 x] 3)) (some ⟨w.heap.size, 0, none⟩) 1 1 [x] := by
  refine ⟨⟨rfl, fun _ => ⟨w.heap.size, 0, rfl, by simp, fun j hj => ?_⟩⟩, (fun e => by cases e), Nat.le_refl _, (by unfold maxLen; omega), fun y hy => ?_⟩
  · obtain rfl : j = 0 := by omega
    rw [World.cell?_alloc_at _ _ _ _ rfl]; rfl
  · obtain rfl := List.mem_singleton.1 hy; exact hx
set_option maxRecDepth 100000 in
set_option maxHeartbeats 8000000 in
theorem awake12_any (H : QueueOk) (w : World) : Calls Try.prog 7 #[] w fun e w' => e = .returned (.bool true) ∧ Below w.heap.size w w' := by
  have HB := Lib.hid (Below.refl w.heap.size w)
  obtain ⟨kc, hkc⟩ : ∃ k, countsQ [⟨1, ⟨1, 1, 0, ⟨#[]⟩, false, 1, 0⟩, [], 5, 0, 0, 1⟩, ⟨2, ⟨1, 1, 0, ⟨#[]⟩, false, 1, 0⟩, [1], 0, 0, 0, 0⟩] = k := ⟨_, rfl⟩
  have KC := Lib.hid hkc
  have k5 : kc 5 = 1 := by rw [← hkc]; exact aw12_counts
  clear hkc
  go_enter Try.func7, Try.ntmps7
  have hb := Below.alloc (Below.refl w.heap.size w) (Nat.le_refl _) (.cells #[.int .i64 1, .int .i64 1, .int .i64 0, .string ⟨#[]⟩, .bool false, .int .i64 1, .int .i64 0] 27)
  have BSq := Lib.hid (box_new w ⟨1, 1, 0, ⟨#[]⟩, false, 1, 0⟩)
  have HBq := Lib.hid (HB.out.trans (hb.mono HB.out.size))
  clear HB
  have HB := HBq
  clear HBq
  clear hb
  have BS := BSq
  clear BSq
  have b0 := BS.out.c0
  have b1 := BS.out.c1
  have b2 := BS.out.c2
  have b3 := BS.out.c3
  have b4 := BS.out.c4
  have b5 := BS.out.c5
  have b6 := BS.out.c6
  simp only at b0 b1 b2 b3 b4 b5 b6
  go_wp2_with fail
  refine (h12_add H (qask_nil _) few_nil aw12_sask (mask_nil _) (by decide) (aw12_i _ (by decide) (by decide)) aw12_1.2.1 aw12_1.2.2 aw12_1.1).mono ?_
  rintro e w1 ⟨⟨A1, n1, c1, rfl, hq1⟩, hb⟩
  have HBq := Lib.hid (HB.out.trans (hb.mono HB.out.size))
  clear HB
  have HB := HBq
  clear HBq
  have BSq := Lib.hid (BS.out.next hb)
  clear BS
  have BS := BSq
  clear BSq
  clear hb
  have Q1 := Lib.hid hq1
  clear hq1
  clear b0 b1 b2 b3 b4 b5 b6
  have b0 := BS.out.c0
  have b1 := BS.out.c1
  have b2 := BS.out.c2
  have b3 := BS.out.c3
  have b4 := BS.out.c4
  have b5 := BS.out.c5
  have b6 := BS.out.c6
  simp only at b0 b1 b2 b3 b4 b5 b6
  have hb := Below.alloc (Below.refl w1.heap.size w1) (Nat.le_refl _) (.cells #[.int .i64 1] 3)
  have M1q := Lib.hid (aw12_lit w1 1 (aw12_i _ (by decide) (by decide)))
  have HBq := Lib.hid (HB.out.trans (hb.mono HB.out.size))
  clear HB
  have HB := HBq
  clear HBq
  have BSq := Lib.hid (BS.out.next hb)
  clear BS
  have BS := BSq
  clear BSq
  have Q1q := Lib.hid (Q1.out.next hb)
  clear Q1
  have Q1 := Q1q
  clear Q1q
  clear hb
  have M1 := M1q
  clear M1q
  go_wp2_with fail
  refine (h12_add H Q1.out aw12_few.2 aw12_sask M1.out (by decide) (aw12_i _ (by decide) (by decide)) aw12_2.2.1 aw12_2.2.2 aw12_2.1).mono ?_
  rintro e w2 ⟨⟨A2, n2, c2, rfl, hq2⟩, hb⟩
  have HBq := Lib.hid (HB.out.trans (hb.mono HB.out.size))
  clear HB
  have HB := HBq
  clear HBq
  have BSq := Lib.hid (BS.out.next hb)
  clear BS
  have BS := BSq
  clear BSq
  have Q1q := Lib.hid (Q1.out.next hb)
  clear Q1
  have Q1 := Q1q
  clear Q1q
  have M1q := Lib.hid (M1.out.next hb)
  clear M1
  have M1 := M1q
  clear M1q
  clear hb
  have Q2 := Lib.hid hq2
  clear hq2
  clear b0 b1 b2 b3 b4 b5 b6
  clear Q1 M1 BS
  go_wp2_with fail
  refine (h12_do H Q2.out aw12_r2 aw12_3.1 (aw12_i _ (by decide) (by decide)) (aw12_i _ (by decide) (by decide)) (aw12_i _ (by decide) (by decide)) aw12_3.2.2 aw12_3.2.1).mono ?_
  rintro e w3 ⟨⟨A3, n3, c3, rfl, hq3⟩, hb⟩
  have HBq := Lib.hid (HB.out.trans (hb.mono HB.out.size))
  clear HB
  have HB := HBq
  clear HBq
  have Q2q := Lib.hid (Q2.out.next hb)
  clear Q2
  have Q2 := Q2q
  clear Q2q
  clear hb
  have Q3 := Lib.hid hq3
  clear hq3
  clear Q2
  go_wp2_with fail
  refine (h12_lost H Q3.out aw12_few.1 aw12_lost).mono ?_
  rintro e w4 ⟨⟨A4, c4, rfl, hr4, hnil4, hc4⟩, hb⟩
  have HBq := Lib.hid (HB.out.trans (hb.mono HB.out.size))
  clear HB
  have HB := HBq
  clear HBq
  have Q3q := Lib.hid (Q3.out.next hb)
  clear Q3
  have Q3 := Q3q
  clear Q3q
  clear hb
  have R4 := Lib.hid hr4
  clear hr4 hnil4 hc4
  have hb := Below.alloc (Below.refl w4.heap.size w4) (Nat.le_refl _) (.cells #[.int .i64 2] 3)
  have M5q := Lib.hid (aw12_lit w4 2 (aw12_i _ (by decide) (by decide)))
  have HBq := Lib.hid (HB.out.trans (hb.mono HB.out.size))
  clear HB
  have HB := HBq
  clear HBq
  have Q3q := Lib.hid (Q3.out.next hb)
  clear Q3
  have Q3 := Q3q
  clear Q3q
  have R4q := Lib.hid (R4.out.next hb)
  clear R4
  have R4 := R4q
  clear R4q
  clear hb
  have M5 := M5q
  clear M5q
  go_wp2_with fail
  refine (ri_same R4.out M5.out.reads (by decide) (by decide) (same_self _)).mono ?_
  rintro e w5 ⟨rfl, hb⟩
  have HBq := Lib.hid (HB.out.trans (hb.mono HB.out.size))
  clear HB
  have HB := HBq
  clear HBq
  have Q3q := Lib.hid (Q3.out.next hb)
  clear Q3
  have Q3 := Q3q
  clear Q3q
  have R4q := Lib.hid (R4.out.next hb)
  clear R4
  have R4 := R4q
  clear R4q
  have M5q := Lib.hid (M5.out.next hb)
  clear M5
  have M5 := M5q
  clear M5q
  clear hb
  go_wp2_with fail
  refine (h12_ready H Q3.out aw12_few.1 aw12_ready).mono ?_
  rintro e w6 ⟨⟨A6, c6, rfl, hr6, hnil6, hc6⟩, hb⟩
  have HBq := Lib.hid (HB.out.trans (hb.mono HB.out.size))
  clear HB
  have HB := HBq
  clear HBq
  have Q3q := Lib.hid (Q3.out.next hb)
  clear Q3
  have Q3 := Q3q
  clear Q3q
  have R4q := Lib.hid (R4.out.next hb)
  clear R4
  have R4 := R4q
  clear R4q
  have M5q := Lib.hid (M5.out.next hb)
  clear M5
  have M5 := M5q
  clear M5q
  clear hb
  clear hr6 hnil6 hc6
  go_wp2_with fail
  refine (h12_counts H Q3.out aw12_few.1 KC.out).mono ?_
  rintro e w7 ⟨rfl, hb⟩
  have HBq := Lib.hid (HB.out.trans (hb.mono HB.out.size))
  clear HB
  have HB := HBq
  clear HBq
  have Q3q := Lib.hid (Q3.out.next hb)
  clear Q3
  have Q3 := Q3q
  clear Q3q
  have R4q := Lib.hid (R4.out.next hb)
  clear R4
  have R4 := R4q
  clear R4q
  have M5q := Lib.hid (M5.out.next hb)
  clear M5
  have M5 := M5q
  clear M5q
  clear hb
  have ix := run_ix7_5 (kc 0) (kc 1) (kc 2) (kc 3) (kc 4) (kc 5) (kc 6)
  rw [k5] at ix
  go_wp2
  go_ret
  exact ⟨rfl, HB.out⟩

end Go.Proofs.Ytimgdlddfnglaaa
