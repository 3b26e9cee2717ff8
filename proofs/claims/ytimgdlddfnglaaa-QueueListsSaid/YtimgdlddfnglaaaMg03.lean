/- What a job asks for, in plain words. No program's text is walked here. Words for memory: a block that holds a spec. An argument that is a spec by value, opened. The program's functions of layer 2 (when) that layer 3 calls: Right, Within, Plus: what they answer of any numbers. -/
import Derived.Test.YtimgdlddfnglaaaMg02
import Derived.Laws.Rows
import Derived.Test.YtimgdlddfnglaaaMg01
import Derived.Below
namespace Go.Proofs.Ytimgdlddfnglaaa

/-- a spec -/
structure Sp where
  nodes : Int
  cores : Int
  gpus : Int
  tag : ByteArray
  whole : Bool
  long : Int
  prio : Int
def sp0 : Sp := ⟨0, 0, 0, ⟨#[]⟩, false, 0, 0⟩
def rightS (s : Sp) : Bool :=
  tagB s.tag && decide ((1 ≤ s.nodes ∧ s.nodes ≤ 64) ∧ (0 ≤ s.cores ∧ s.cores ≤ 64) ∧ (0 ≤ s.gpus ∧ s.gpus ≤ 64) ∧ ¬ (s.cores = 0 ∧ s.gpus = 0 ∧ s.whole = false) ∧ (1 ≤ s.long ∧ s.long ≤ 1099511627776) ∧ (-1000 ≤ s.prio ∧ s.prio ≤ 1000))
/-- how many cores and gpus in all -/
def sizeS (s : Sp) : Int := s.nodes * s.cores + s.nodes * s.gpus
def endsS (s : Sp) (a : Int) : Int := plusZ a (if rightS s = true then s.long else 0)
def aheadS (a b : Sp) : Bool := rightS a && (rightS b && (if a.prio ≠ b.prio then decide (b.prio < a.prio) else if sizeS a ≠ sizeS b then decide (sizeS a < sizeS b) else decide (a.long < b.long)))
def partS (s : Sp) (n : Int) : Sp × Int := if rightS s = false ∨ n < 0 then (sp0, 1) else if s.nodes ≤ n then (sp0, 6) else ({ s with nodes := s.nodes - n }, 0)
def asksS (s : Sp) : Int × Int × Int := if rightS s = true then (s.nodes, s.nodes * s.cores, s.nodes * s.gpus) else (0, 0, 0)

theorem rightS_is {s : Sp} (h : rightS s = true) : tagB s.tag = true ∧ (1 ≤ s.nodes ∧ s.nodes ≤ 64) ∧ (0 ≤ s.cores ∧ s.cores ≤ 64) ∧ (0 ≤ s.gpus ∧ s.gpus ≤ 64) ∧ ¬ (s.cores = 0 ∧ s.gpus = 0 ∧ s.whole = false) ∧ (1 ≤ s.long ∧ s.long ≤ 1099511627776) ∧ (-1000 ≤ s.prio ∧ s.prio ≤ 1000) := by
  unfold rightS at h
  rwa [Bool.and_eq_true, decide_eq_true_eq] at h
theorem rightS_no {s : Sp} (h : ¬ (tagB s.tag = true ∧ (1 ≤ s.nodes ∧ s.nodes ≤ 64) ∧ (0 ≤ s.cores ∧ s.cores ≤ 64) ∧ (0 ≤ s.gpus ∧ s.gpus ≤ 64) ∧ ¬ (s.cores = 0 ∧ s.gpus = 0 ∧ s.whole = false) ∧ (1 ≤ s.long ∧ s.long ≤ 1099511627776) ∧ (-1000 ≤ s.prio ∧ s.prio ≤ 1000))) : rightS s = false := by
  cases hr : rightS s with
  | false => rfl
  | true => exact absurd (rightS_is hr) h
theorem rightS_mk {s : Sp} (h : tagB s.tag = true ∧ (1 ≤ s.nodes ∧ s.nodes ≤ 64) ∧ (0 ≤ s.cores ∧ s.cores ≤ 64) ∧ (0 ≤ s.gpus ∧ s.gpus ≤ 64) ∧ ¬ (s.cores = 0 ∧ s.gpus = 0 ∧ s.whole = false) ∧ (1 ≤ s.long ∧ s.long ≤ 1099511627776) ∧ (-1000 ≤ s.prio ∧ s.prio ≤ 1000)) : rightS s = true := by
  unfold rightS
  rwa [Bool.and_eq_true, decide_eq_true_eq]
theorem mul_bounds {x y : Int} (h1 : 0 ≤ x) (h2 : x ≤ 64) (h3 : 0 ≤ y) (h4 : y ≤ 64) : 0 ≤ x * y ∧ x * y ≤ 4096 := by
  refine ⟨Int.mul_nonneg h1 h3, ?_⟩
  have := Int.mul_le_mul h2 h4 h3 (by omega)
  omega
theorem sizeS_bounds {s : Sp} (h : rightS s = true) : 0 ≤ sizeS s ∧ sizeS s ≤ 8192 := by
  obtain ⟨_, h1, h2, h3, _⟩ := rightS_is h
  have a := mul_bounds (by omega) h1.2 h2.1 h2.2
  have b := mul_bounds (x := s.nodes) (by omega) h1.2 h3.1 h3.2
  unfold sizeS
  omega
theorem aheadS_iff {a b : Sp} : aheadS a b = true ↔ rightS a = true ∧ rightS b = true ∧ (b.prio < a.prio ∨ (a.prio = b.prio ∧ (sizeS a < sizeS b ∨ (sizeS a = sizeS b ∧ a.long < b.long)))) := by
  unfold aheadS
  rw [Bool.and_eq_true, Bool.and_eq_true]
  refine and_congr_right fun _ => and_congr_right fun _ => ?_
  split
  · rw [decide_eq_true_eq]; omega
  · split
    · rw [decide_eq_true_eq]; omega
    · rw [decide_eq_true_eq]; omega
theorem ahead_self (a : Sp) : aheadS a a = false := by
  rw [← Bool.not_eq_true, aheadS_iff]; omega
theorem ahead_both (a b : Sp) : ¬ (aheadS a b = true ∧ aheadS b a = true) := by
  rw [aheadS_iff, aheadS_iff]; omega
theorem ahead_on {a b c : Sp} (h1 : aheadS a b = true) (h2 : aheadS b c = true) : aheadS a c = true := by
  rw [aheadS_iff] at *
  obtain ⟨r1, _, h1⟩ := h1
  obtain ⟨_, r3, h2⟩ := h2
  exact ⟨r1, r3, by omega⟩
theorem ahead_alike {a b c : Sp} (ha : rightS a = true) (hb : rightS b = true) (hc : rightS c = true) (h1 : aheadS a b = false) (h2 : aheadS b a = false) (h3 : aheadS b c = false) (h4 : aheadS c b = false) : aheadS a c = false ∧ aheadS c a = false := by
  rw [← Bool.not_eq_true, aheadS_iff] at *
  rw [← Bool.not_eq_true, aheadS_iff]
  simp only [ha, hb, hc, true_and] at *
  omega
theorem ahead_round {a b c : Sp} (h : ¬ (rightS a = true ∧ rightS b = true ∧ rightS c = true)) : ¬ (aheadS a b = true ∧ aheadS b c = true ∧ aheadS c a = true) := by
  rw [aheadS_iff, aheadS_iff, aheadS_iff]
  rintro ⟨⟨h1, h2, _⟩, ⟨_, h3, _⟩, _⟩
  exact h ⟨h1, h2, h3⟩
theorem plus_rise {x y l : Int} (h : x ≤ y) : plusZ x l ≤ plusZ y l := by unfold plusZ nearZ; repeat' split; all_goals omega
theorem plus_near {x l : Int} (h0 : 0 ≤ x) (h1 : x ≤ 4294967295) (hl : 0 ≤ l) (hl2 : l ≤ 1099511627776) : plusZ x l = x + l := by unfold plusZ nearZ; repeat' split; all_goals omega
theorem plus_never {l : Int} (hl : 0 ≤ l) : plusZ 4611686018427387904 l = 4611686018427387904 := by unfold plusZ nearZ; repeat' split; all_goals omega
theorem partS_ok {s : Sp} {n : Int} (hr : rightS s = true) (hn : 0 ≤ n) : partS s n = if s.nodes ≤ n then (sp0, 6) else ({ s with nodes := s.nodes - n }, 0) := by
  unfold partS
  rw [if_neg]
  rintro (h | h)
  · rw [hr] at h; cases h
  · omega
/-- a part of a part is one part -/
theorem part_part {s a : Sp} {x y : Int} (hx : 0 ≤ x) (hy : 0 ≤ y) (h : partS s x = (a, 0)) : rightS a = true ∧ a.nodes = s.nodes - x ∧ a.cores = s.cores ∧ a.gpus = s.gpus ∧ rightS s = true ∧ partS a y = partS s (x + y) := by
  unfold partS at h
  split at h
  · injection h with _ h2; cases h2
  · rename_i h0
    split at h
    · injection h with _ h2; cases h2
    · rename_i h1
      injection h with h2
      subst h2
      have hr : rightS s = true := by
        cases hr : rightS s with
        | true => rfl
        | false => exact absurd (.inl hr) h0
      have hs := rightS_is hr
      have hr' : rightS { s with nodes := s.nodes - x } = true := rightS_mk ⟨hs.1, ⟨by show 1 ≤ s.nodes - x; omega, by show s.nodes - x ≤ 64; omega⟩, hs.2.2⟩
      refine ⟨hr', rfl, rfl, rfl, hr, ?_⟩
      rw [partS_ok hr' hy, partS_ok hr (by omega)]
      by_cases hlt : s.nodes ≤ x + y
      · rw [if_pos (by show s.nodes - x ≤ y; omega), if_pos hlt]
      · rw [if_neg (by show ¬ s.nodes - x ≤ y; omega), if_neg hlt]
        show (({ s with nodes := s.nodes - x - y } : Sp), (0 : Int)) = ({ s with nodes := s.nodes - (x + y) }, 0)
        rw [show s.nodes - x - y = s.nodes - (x + y) by omega]

end Go.Proofs.Ytimgdlddfnglaaa

namespace Go.Proofs.Ytimgdlddfnglaaa
open Go.RowKit

/-- a spec's value -/
def spV (s : Sp) : Value := .agg #[.int .i64 s.nodes, .int .i64 s.cores, .int .i64 s.gpus, .string s.tag, .bool s.whole, .int .i64 s.long, .int .i64 s.prio]
/-- a block with a spec's cells -/
def spO (s : Sp) : Obj := .cells #[.int .i64 s.nodes, .int .i64 s.cores, .int .i64 s.gpus, .string s.tag, .bool s.whole, .int .i64 s.long, .int .i64 s.prio] 27
/-- a spec as it may be handed in -/
structure SAsk (s : Sp) : Prop where
  nodes : I64 s.nodes
  cores : I64 s.cores
  gpus : I64 s.gpus
  tag : s.tag.size ≤ maxLen
  long : I64 s.long
  prio : I64 s.prio
/-- block g holds the spec s -/
structure BoxS (wr : World) (g : Nat) (s : Sp) : Prop where
  lt : g < wr.heap.size
  at' : wr.heap[g]? = some (spO s)
section
variable {w wr w' : World} {g : Nat} {s : Sp}
theorem BoxS.next (h : BoxS wr g s) (hb : Below wr.heap.size wr w') : BoxS w' g s := ⟨Nat.lt_of_lt_of_le h.lt hb.size, (hb.block _ h.lt).trans h.at'⟩
theorem BoxS.alloc (h : BoxS wr g s) (o : Obj) : BoxS (wr.alloc o) g s := h.next ((Below.refl _ _).alloc (Nat.le_refl _) _)
theorem BoxS.drewN (h : BoxS wr g s) (q : Nat) : BoxS (wr.drewN q) g s := h.next (bel_drew wr q)
theorem box_new (w : World) (s : Sp) : BoxS (w.alloc (spO s)) w.heap.size s := ⟨by simp, heap_alloc_new w _⟩
theorem BoxS.c0 (h : BoxS wr g s) : wr.cell? ⟨g, 0, none⟩ = some (.int .i64 s.nodes) := (cell_of_row wr g 0 _ _ (0, 0) h.at').trans rfl
theorem BoxS.c1 (h : BoxS wr g s) : wr.cell? ⟨g, 1, none⟩ = some (.int .i64 s.cores) := (cell_of_row wr g 1 _ _ (0, 0) h.at').trans rfl
theorem BoxS.c2 (h : BoxS wr g s) : wr.cell? ⟨g, 2, none⟩ = some (.int .i64 s.gpus) := (cell_of_row wr g 2 _ _ (0, 0) h.at').trans rfl
theorem BoxS.c3 (h : BoxS wr g s) : wr.cell? ⟨g, 3, none⟩ = some (.string s.tag) := (cell_of_row wr g 3 _ _ (0, 0) h.at').trans rfl
theorem BoxS.c4 (h : BoxS wr g s) : wr.cell? ⟨g, 4, none⟩ = some (.bool s.whole) := (cell_of_row wr g 4 _ _ (0, 0) h.at').trans rfl
theorem BoxS.c5 (h : BoxS wr g s) : wr.cell? ⟨g, 5, none⟩ = some (.int .i64 s.long) := (cell_of_row wr g 5 _ _ (0, 0) h.at').trans rfl
theorem BoxS.c6 (h : BoxS wr g s) : wr.cell? ⟨g, 6, none⟩ = some (.int .i64 s.prio) := (cell_of_row wr g 6 _ _ (0, 0) h.at').trans rfl
theorem BoxS.frozen (h : BoxS wr g s) (j : Nat) : wr.frozen? ⟨g, j, none⟩ = false := frozen_of_row wr g j _ _ h.at'
end
theorem spec_size : (Try.prog.info? 27).map (·.size) = some 7 := by kernel_rfl
/-- a whole spec is loaded -/
theorem wpList_load_spec {ops : Array Oper} {rest : List Oper} {o : Oper} {a : Act} {Q : Exit → Act → World → Prop} {w : World} {g : Nat} {s : Sp} (hgd : o.guard = none) (x : Operand) (ho : o.op = .load 27 x)
    (hm : BoxS w g s) (hx : a.eval x = .pointer (some ⟨g, 0, none⟩))
    (h : wpList Try.prog ops Q rest (a.put o.dst (spV s)) w) : wpList Try.prog ops Q (o :: rest) a w :=
  wpList_load_row hgd _ x ho g hx _ _ (0, 0) _ hm.at' Try.underlying27 rfl spec_size h

end Go.Proofs.Ytimgdlddfnglaaa

namespace Go.Proofs.Ytimgdlddfnglaaa
open Go.ChangeShapes Go.WideShapes Go.ChangeAt Go.RowKit Go.Deep

set_option maxRecDepth 100000 in
theorem open_spec {H : Type} {enc : TypeId × Value → H} {W : World} {cs : List Value} {x : DataW H × List MemPlace} {fuel : Nat}
    (hl : cs.length = 7) (hf : DataW.trod enc Try.prog W 0 (fun _ => true) true fuel 27 cs = some x) :
    ∃ s : Sp, cs = [.int .i64 s.nodes, .int .i64 s.cores, .int .i64 s.gpus, .string s.tag, .bool s.whole, .int .i64 s.long, .int .i64 s.prio] ∧ SAsk s := by
  obtain ⟨ys, n', hn', hy, hlen, hyl, hfs⟩ := DataW.trod_struct Try.underlying27 hf
  obtain ⟨v0, v1, v2, v3, v4, v5, v6, rfl⟩ : ∃ v0 v1 v2 v3 v4 v5 v6, cs = [v0, v1, v2, v3, v4, v5, v6] := by
    match cs, hl with
    | [a, b, c, d, e, f, g], _ => exact ⟨a, b, c, d, e, f, g, rfl⟩
  have ci : Try.prog.cellsOf 3 = 1 := by kernel_rfl
  have cl : Try.prog.cellsOf 2 = 1 := by kernel_rfl
  have cs' : Try.prog.cellsOf 9 = 1 := by kernel_rfl
  have cb : Try.prog.cellsOf 4 = 1 := by kernel_rfl
  have h0 : DataW.trod enc Try.prog W 0 (fun _ => true) true n' 3 (List.take (Try.prog.cellsOf 3) [v0, v1, v2, v3, v4, v5, v6]) = ys[0]? := hfs 0 _ rfl
  have h1 : DataW.trod enc Try.prog W 0 (fun _ => true) true n' 3 (List.take (Try.prog.cellsOf 3) [v1, v2, v3, v4, v5, v6]) = ys[1]? := hfs 1 _ rfl
  have h2 : DataW.trod enc Try.prog W 0 (fun _ => true) true n' 3 (List.take (Try.prog.cellsOf 3) [v2, v3, v4, v5, v6]) = ys[2]? := hfs 2 _ rfl
  have h3 : DataW.trod enc Try.prog W 0 (fun _ => true) true n' 9 (List.take (Try.prog.cellsOf 9) [v3, v4, v5, v6]) = ys[3]? := hfs 3 _ rfl
  have h4 : DataW.trod enc Try.prog W 0 (fun _ => true) true n' 4 (List.take (Try.prog.cellsOf 4) [v4, v5, v6]) = ys[4]? := hfs 4 _ rfl
  have h5 : DataW.trod enc Try.prog W 0 (fun _ => true) true n' 2 (List.take (Try.prog.cellsOf 2) [v5, v6]) = ys[5]? := hfs 5 _ rfl
  have h6 : DataW.trod enc Try.prog W 0 (fun _ => true) true n' 3 (List.take (Try.prog.cellsOf 3) [v6]) = ys[6]? := hfs 6 _ rfl
  rw [ci] at h0 h1 h2 h6
  rw [cl] at h5
  rw [cs'] at h3
  rw [cb] at h4
  obtain ⟨y0, y1, y2, y3, y4, y5, y6, rfl⟩ : ∃ y0 y1 y2 y3 y4 y5 y6, ys = [y0, y1, y2, y3, y4, y5, y6] := by
    match ys, hyl with
    | [a, b, c, d, e, f, g], _ => exact ⟨a, b, c, d, e, f, g, rfl⟩
  obtain ⟨z0, e0, _, w0⟩ := DataW.trod_int Try.underlying3 h0
  obtain ⟨z1, e1, _, w1⟩ := DataW.trod_int Try.underlying3 h1
  obtain ⟨z2, e2, _, w2⟩ := DataW.trod_int Try.underlying3 h2
  obtain ⟨z3, e3, _, w3⟩ := DataW.trod_string Try.underlying9 h3
  obtain ⟨z4, e4, _⟩ := DataW.trod_bool Try.underlying4 h4
  obtain ⟨z5, e5, _, w5⟩ := DataW.trod_int Try.underlying2 h5
  obtain ⟨z6, e6, _, w6⟩ := DataW.trod_int Try.underlying3 h6
  simp at e0 e1 e2 e3 e4 e5 e6
  subst e0 e1 e2 e3 e4 e5 e6
  exact ⟨⟨z0, z1, z2, z3, z4, z5, z6⟩, rfl, ⟨i64_wf w0, i64_wf w1, i64_wf w2, w3, i64_wf w5, i64_wf w6⟩⟩
set_option maxRecDepth 100000 in
theorem open_S {H : Type} {enc : TypeId × Value → H} {W : World} {b0 : Nat} {v : Value} {d : DataW H} {ps : List MemPlace}
    (hval : Value.okWide Try.prog W .any b0 27 v) (h : DataW.Trod enc Try.prog W 0 (fun _ => true) true 27 v d ps) :
    ∃ s : Sp, v = .agg #[.int .i64 s.nodes, .int .i64 s.cores, .int .i64 s.gpus, .string s.tag, .bool s.whole, .int .i64 s.long, .int .i64 s.prio] ∧ SAsk s := by
  obtain ⟨fuel, hf⟩ := h
  obtain ⟨cs, rfl, hsz⟩ := okWide_struct Try.underlying27 hval
  have c7 : Try.prog.cellsOf 27 = 7 := by kernel_rfl
  obtain ⟨s, hs, ha⟩ := open_spec (by simpa [Value.cells] using hsz.trans c7) hf
  refine ⟨s, ?_, ha⟩
  congr 1
  apply Array.ext'
  simpa [Value.cells] using hs

end Go.Proofs.Ytimgdlddfnglaaa

namespace Go.Proofs.Ytimgdlddfnglaaa
open Go.RowKit

def withinB (a b c d : Int) : Bool := decide (b ≤ a ∨ (c ≤ a ∧ b ≤ d))
def timeB (t : Int) : Bool := decide (0 ≤ t ∧ t ≤ 4611686018427387904)

theorem ret_bl {a b : Bool} (h : b = a) : Ending.returned (.bool a) = .returned (.bool b) := by rw [h]


theorem whenRight_any (t : Int) (w : World) : Calls Try.prog 40 #[.int .i64 t] w fun e w' => e = .returned (.bool (timeB t)) ∧ w = w' := by
  by_cases h : 0 ≤ t
  · by_cases h2 : t ≤ 4611686018427387904
    · have e : Hid (timeB t = true) := Lib.hid (by unfold timeB; exact decide_eq_true ⟨h, h2⟩)
      go_enter Try.func40, Try.ntmps40
      go_wp2
      go_ret
      exact ⟨ret_bl e.out, rfl⟩
    · have e : Hid (timeB t = false) := Lib.hid (by unfold timeB; exact decide_eq_false (fun h' => h2 h'.2))
      go_enter Try.func40, Try.ntmps40
      go_wp2
      go_ret
      exact ⟨ret_bl e.out, rfl⟩
  · have e : Hid (timeB t = false) := Lib.hid (by unfold timeB; exact decide_eq_false (fun h' => h h'.1))
    go_enter Try.func40, Try.ntmps40
    go_wp2
    go_ret
    exact ⟨ret_bl e.out, rfl⟩



theorem plusZ_i64 (t l : Int) : I64 (plusZ t l) := by
  have r1 := nearZ_range t
  have r2 := nearZ_range l
  unfold I64 plusZ
  split <;> omega

theorem whenRight_b (t : Int) (w : World) (b : Bool) (h : timeB t = b) : Calls Try.prog 40 #[.int .i64 t] w fun e w' => e = .returned (.bool b) ∧ w = w' := by
  subst h
  exact whenRight_any t w

end Go.Proofs.Ytimgdlddfnglaaa
