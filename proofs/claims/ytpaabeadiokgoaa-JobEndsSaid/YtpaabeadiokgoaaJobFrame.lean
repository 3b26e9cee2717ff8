/- How layer 11's arguments are opened: a job by value. -/
import Derived.Test.YtpaabeadiokgoaaOpenNum
import Derived.Test.YtpaabeadiokgoaaSpecFrame
import Derived.Test.YtpaabeadiokgoaaJobMem
namespace Go.Proofs.Ytpaabeadiokgoaa
open Go.ChangeShapes Go.WideShapes Go.ChangeAt Go.RowKit Go.Deep

set_option maxRecDepth 100000 in
theorem open_job {H : Type} {enc : TypeId × Value → H} {W : World} {cs : List Value} {x : DataW H × List MemPlace} {fuel : Nat}
    (hl : cs.length = 13) (hf : DataW.trod enc Try.prog W 0 (fun _ => true) true fuel 26 cs = some x) : ∃ A m c j, cs = (jA j A m c).toList ∧ JAsk W A m c j := by
  obtain ⟨ys, n', hn', hy, hlen, hyl, hfs⟩ := DataW.trod_struct Try.underlying26 hf
  obtain ⟨v0, v1, v2, v3, v4, v5, v6, v7, v8, v9, v10, v11, v12, rfl⟩ : ∃ v0 v1 v2 v3 v4 v5 v6 v7 v8 v9 v10 v11 v12, cs = [v0, v1, v2, v3, v4, v5, v6, v7, v8, v9, v10, v11, v12] := by
    match cs, hl with
    | [a, b, c, d, e, f, g, h, i, j, k, l, m], _ => exact ⟨a, b, c, d, e, f, g, h, i, j, k, l, m, rfl⟩
  have ci : Try.prog.cellsOf 3 = 1 := by kernel_rfl
  have cs' : Try.prog.cellsOf 24 = 1 := by kernel_rfl
  have cl : Try.prog.cellsOf 2 = 1 := by kernel_rfl
  have cp : Try.prog.cellsOf 23 = 7 := by kernel_rfl
  have h0 : DataW.trod enc Try.prog W 0 (fun _ => true) true n' 3 (List.take (Try.prog.cellsOf 3) [v0, v1, v2, v3, v4, v5, v6, v7, v8, v9, v10, v11, v12]) = ys[0]? := hfs 0 _ rfl
  have h1 : DataW.trod enc Try.prog W 0 (fun _ => true) true n' 23 (List.take (Try.prog.cellsOf 23) [v1, v2, v3, v4, v5, v6, v7, v8, v9, v10, v11, v12]) = ys[1]? := hfs 1 _ rfl
  have h2 : DataW.trod enc Try.prog W 0 (fun _ => true) true n' 24 (List.take (Try.prog.cellsOf 24) [v8, v9, v10, v11, v12]) = ys[2]? := hfs 2 _ rfl
  have h3 : DataW.trod enc Try.prog W 0 (fun _ => true) true n' 3 (List.take (Try.prog.cellsOf 3) [v9, v10, v11, v12]) = ys[3]? := hfs 3 _ rfl
  have h4 : DataW.trod enc Try.prog W 0 (fun _ => true) true n' 2 (List.take (Try.prog.cellsOf 2) [v10, v11, v12]) = ys[4]? := hfs 4 _ rfl
  have h5 : DataW.trod enc Try.prog W 0 (fun _ => true) true n' 2 (List.take (Try.prog.cellsOf 2) [v11, v12]) = ys[5]? := hfs 5 _ rfl
  have h6 : DataW.trod enc Try.prog W 0 (fun _ => true) true n' 2 (List.take (Try.prog.cellsOf 2) [v12]) = ys[6]? := hfs 6 _ rfl
  rw [ci] at h0 h3
  rw [cp] at h1
  rw [cs'] at h2
  rw [cl] at h4 h5 h6
  obtain ⟨y0, y1, y2, y3, y4, y5, y6, rfl⟩ : ∃ y0 y1 y2 y3 y4 y5 y6, ys = [y0, y1, y2, y3, y4, y5, y6] := by
    match ys, hyl with
    | [a, b, c, d, e, f, g], _ => exact ⟨a, b, c, d, e, f, g, rfl⟩
  obtain ⟨z0, e0, _, w0⟩ := DataW.trod_int Try.underlying3 h0
  obtain ⟨s, e1, hs⟩ := open_spec rfl h1
  obtain ⟨A, m, c, xs, e2, hr, a1, a2, a3, a4⟩ := open_things h2
  obtain ⟨z3, e3, _, w3⟩ := DataW.trod_int Try.underlying3 h3
  obtain ⟨z4, e4, _, w4⟩ := DataW.trod_int Try.underlying2 h4
  obtain ⟨z5, e5, _, w5⟩ := DataW.trod_int Try.underlying2 h5
  obtain ⟨z6, e6, _, w6⟩ := DataW.trod_int Try.underlying2 h6
  simp at e0 e3 e4 e5 e6
  simp at e1
  obtain ⟨q1, q2, q3, q4, q5, q6, q7⟩ := e1
  subst e0 q1 q2 q3 q4 q5 q6 q7 e2 e3 e4 e5 e6
  exact ⟨A, m, c, ⟨z0, s, xs, z3, z4, z5, z6⟩, rfl, RN.ri hr, a1, a2, a3, hs, i64_wf w0, i64_wf w3, i64_wf w4, i64_wf w5, i64_wf w6, a4⟩
set_option maxRecDepth 100000 in
theorem open_J {H : Type} {enc : TypeId × Value → H} {W : World} {b0 : Nat} {v : Value} {d : DataW H} {ps : List MemPlace}
    (hval : Value.okWide Try.prog W .any b0 26 v) (h : DataW.Trod enc Try.prog W 0 (fun _ => true) true 26 v d ps) :
    ∃ A m c j, v = jV j A m c ∧ JAsk W A m c j := by
  obtain ⟨fuel, hf⟩ := h
  obtain ⟨cs, rfl, hsz⟩ := okWide_struct Try.underlying26 hval
  have c13 : Try.prog.cellsOf 26 = 13 := by kernel_rfl
  obtain ⟨A, m, c, j, hv, ha⟩ := open_job (by simpa [Value.cells] using hsz.trans c13) hf
  refine ⟨A, m, c, j, ?_, ha⟩
  show Value.agg cs = .agg (jA j A m c)
  congr 1
  apply Array.ext'
  simpa [Value.cells] using hv

end Go.Proofs.Ytpaabeadiokgoaa
