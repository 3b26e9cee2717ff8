/- How a list of what is done with a queue is opened. Written by hand. -/
import Derived.Test.YtimgdlddfnglaaaMg06
import Derived.Test.YtimgdlddfnglaaaZQueueLGrows
namespace Go.Proofs.Ytimgdlddfnglaaa
open Go.ChangeShapes Go.WideShapes Go.ChangeAt Go.RowKit Go.Deep

set_option maxRecDepth 100000 in
theorem open_act {H : Type} {enc : TypeId × Value → H} {W : World} {cs : List Value} {x : DataW H × List MemPlace} {fuel : Nat}
    (hl : cs.length = 11) (hf : DataW.trod enc Try.prog W 0 (fun _ => true) true fuel 38 cs = some x) : ∃ y, EA W (Lt W.heap.size) y cs := by
  obtain ⟨ys, n', hn', hy, hlen, hyl, hfs⟩ := DataW.trod_struct Try.underlying38 hf
  obtain ⟨v0, v1, v2, v3, v4, v5, v6, v7, v8, v9, v10, rfl⟩ : ∃ v0 v1 v2 v3 v4 v5 v6 v7 v8 v9 v10, cs = [v0, v1, v2, v3, v4, v5, v6, v7, v8, v9, v10] := by
    match cs, hl with
    | [a, b, c, d, e, f, g, h, i, j, k], _ => exact ⟨a, b, c, d, e, f, g, h, i, j, k, rfl⟩
  have ci : Try.prog.cellsOf 3 = 1 := by kernel_rfl
  have cu : Try.prog.cellsOf 5 = 1 := by kernel_rfl
  have cp : Try.prog.cellsOf 27 = 7 := by kernel_rfl
  have h0 : DataW.trod enc Try.prog W 0 (fun _ => true) true n' 3 (List.take (Try.prog.cellsOf 3) [v0, v1, v2, v3, v4, v5, v6, v7, v8, v9, v10]) = ys[0]? := hfs 0 _ rfl
  have h1 : DataW.trod enc Try.prog W 0 (fun _ => true) true n' 5 (List.take (Try.prog.cellsOf 5) [v1, v2, v3, v4, v5, v6, v7, v8, v9, v10]) = ys[1]? := hfs 1 _ rfl
  have h2 : DataW.trod enc Try.prog W 0 (fun _ => true) true n' 27 (List.take (Try.prog.cellsOf 27) [v2, v3, v4, v5, v6, v7, v8, v9, v10]) = ys[2]? := hfs 2 _ rfl
  have h3 : DataW.trod enc Try.prog W 0 (fun _ => true) true n' 5 (List.take (Try.prog.cellsOf 5) [v9, v10]) = ys[3]? := hfs 3 _ rfl
  have h4 : DataW.trod enc Try.prog W 0 (fun _ => true) true n' 5 (List.take (Try.prog.cellsOf 5) [v10]) = ys[4]? := hfs 4 _ rfl
  rw [ci] at h0
  rw [cu] at h1 h3 h4
  rw [cp] at h2
  obtain ⟨y0, y1, y2, y3, y4, rfl⟩ : ∃ y0 y1 y2 y3 y4, ys = [y0, y1, y2, y3, y4] := by
    match ys, hyl with
    | [a, b, c, d, e], _ => exact ⟨a, b, c, d, e, rfl⟩
  obtain ⟨z0, e0, _, w0⟩ := DataW.trod_int Try.underlying3 h0
  obtain ⟨z1, e1, _, w1⟩ := DataW.trod_int Try.underlying5 h1
  obtain ⟨s, e2, hs⟩ := open_spec rfl h2
  obtain ⟨z3, e3, _, w3⟩ := DataW.trod_int Try.underlying5 h3
  obtain ⟨z4, e4, _, w4⟩ := DataW.trod_int Try.underlying5 h4
  simp at e0 e1 e2 e3 e4
  obtain ⟨q1, q2, q3, q4, q5, q6, q7⟩ := e2
  subst e0 e1 q1 q2 q3 q4 q5 q6 q7 e3 e4
  exact ⟨⟨z0, z1, s, z3, z4⟩, rfl, i64_wf w0, u8_wf w1, hs, u8_wf w3, (u8_wf w4).1, (u8_wf w4).2⟩
set_option maxRecDepth 100000 in
theorem open_AL {H : Type} {enc : TypeId × Value → H} {W : World} {b0 : Nat} {v : Value} {d : DataW H} {ps : List MemPlace}
    (hval : Value.okWide Try.prog W .any b0 36 v) (h : DataW.Trod enc Try.prog W 0 (fun _ => true) true 36 v d ps) :
    ∃ A n c l, v = .slice A n c ∧ AList W A n c l := by
  obtain ⟨fuel, hf⟩ := h
  obtain ⟨a', n', c', rfl⟩ := okWide_slice Try.underlying36 hval
  obtain ⟨A, n, c, xs, e, hr, h1, h2, h3⟩ := open_RN (E := EA) (C := 11) Try.underlying36 (by kernel_rfl) (by omega) (fun n cs y hl ht => open_act hl ht) hf
  simp [Value.cells] at e
  obtain ⟨rfl, rfl, rfl⟩ := e
  exact ⟨_, _, _, xs, rfl, hr, h1, h2, h3⟩

end Go.Proofs.Ytimgdlddfnglaaa
