/- An argument that is a spec by value, opened. -/
import Derived.Test.YtpaabeadiokgoaaOpen
import Derived.Test.YtpaabeadiokgoaaSpecMem
namespace Go.Proofs.Ytpaabeadiokgoaa
open Go.ChangeShapes Go.WideShapes Go.ChangeAt Go.RowKit Go.Deep

theorem open_spec {H : Type} {enc : TypeId × Value → H} {W : World} {cs : List Value} {x : DataW H × List MemPlace} {fuel : Nat}
    (hl : cs.length = 7) (hf : DataW.trod enc Try.prog W 0 (fun _ => true) true fuel 23 cs = some x) :
    ∃ s : Sp, cs = [.int .i64 s.nodes, .int .i64 s.cores, .int .i64 s.gpus, .string s.tag, .bool s.whole, .int .i64 s.long, .int .i64 s.prio] ∧ SAsk s := by
  obtain ⟨ys, n', hn', hy, hlen, hyl, hfs⟩ := DataW.trod_struct Try.underlying23 hf
  obtain ⟨v0, v1, v2, v3, v4, v5, v6, rfl⟩ : ∃ v0 v1 v2 v3 v4 v5 v6, cs = [v0, v1, v2, v3, v4, v5, v6] := by
    match cs, hl with
    | [a, b, c, d, e, f, g], _ => exact ⟨a, b, c, d, e, f, g, rfl⟩
  have ci : Try.prog.cellsOf 3 = 1 := by kernel_rfl
  have cl : Try.prog.cellsOf 2 = 1 := by kernel_rfl
  have cs' : Try.prog.cellsOf 9 = 1 := by kernel_rfl
  have cb : Try.prog.cellsOf 4 = 1 := by kernel_rfl
  have h0 : DataW.trod enc Try.prog W 0 (fun _ => true) true n' 3 (List.take (Try.prog.cellsOf 3) [v0, v1, v2, v3, v4, v5, v6]) = ys[0]? := hfs 0 _ rfl
  have h1 : DataW.trod enc Try.prog W 0 (fun _ => true) true n' 3 (List.take (Try.prog.cellsOf 3) [v1, v2, v3, v4, v5, v6]) = ys[1]? := hfs 1 _ rfl
  have h2 : DataW.trod enc Try.prog W 0 (fun _ => true) true n' 3 (List.take (Try.prog.cellsOf 3) [v2, v3, v4, v5, v6]) = ys[2]? := hfs 2 _ rfl
  have h3 : DataW.trod enc Try.prog W 0 (fun _ => true) true n' 9 (List.take (Try.prog.cellsOf 9) [v3, v4, v5, v6]) = ys[3]? := hfs 3 _ rfl
  have h4 : DataW.trod enc Try.prog W 0 (fun _ => true) true n' 4 (List.take (Try.prog.cellsOf 4) [v4, v5, v6]) = ys[4]? := hfs 4 _ rfl
  have h5 : DataW.trod enc Try.prog W 0 (fun _ => true) true n' 2 (List.take (Try.prog.cellsOf 2) [v5, v6]) = ys[5]? := hfs 5 _ rfl
  have h6 : DataW.trod enc Try.prog W 0 (fun _ => true) true n' 3 (List.take (Try.prog.cellsOf 3) [v6]) = ys[6]? := hfs 6 _ rfl
  rw [ci] at h0 h1 h2 h6
  rw [cl] at h5
  rw [cs'] at h3
  rw [cb] at h4
  obtain ⟨y0, y1, y2, y3, y4, y5, y6, rfl⟩ : ∃ y0 y1 y2 y3 y4 y5 y6, ys = [y0, y1, y2, y3, y4, y5, y6] := by
    match ys, hyl with
    | [a, b, c, d, e, f, g], _ => exact ⟨a, b, c, d, e, f, g, rfl⟩
  obtain ⟨z0, e0, _, w0⟩ := DataW.trod_int Try.underlying3 h0
  obtain ⟨z1, e1, _, w1⟩ := DataW.trod_int Try.underlying3 h1
  obtain ⟨z2, e2, _, w2⟩ := DataW.trod_int Try.underlying3 h2
  obtain ⟨z3, e3, _, w3⟩ := DataW.trod_string Try.underlying9 h3
  obtain ⟨z4, e4, _⟩ := DataW.trod_bool Try.underlying4 h4
  obtain ⟨z5, e5, _, w5⟩ := DataW.trod_int Try.underlying2 h5
  obtain ⟨z6, e6, _, w6⟩ := DataW.trod_int Try.underlying3 h6
  simp at e0 e1 e2 e3 e4 e5 e6
  subst e0 e1 e2 e3 e4 e5 e6
  exact ⟨⟨z0, z1, z2, z3, z4, z5, z6⟩, rfl, ⟨i64_wf w0, i64_wf w1, i64_wf w2, w3, i64_wf w5, i64_wf w6⟩⟩
theorem open_S {H : Type} {enc : TypeId × Value → H} {W : World} {b0 : Nat} {v : Value} {d : DataW H} {ps : List MemPlace}
    (hval : Value.okWide Try.prog W .any b0 23 v) (h : DataW.Trod enc Try.prog W 0 (fun _ => true) true 23 v d ps) :
    ∃ s : Sp, v = .agg #[.int .i64 s.nodes, .int .i64 s.cores, .int .i64 s.gpus, .string s.tag, .bool s.whole, .int .i64 s.long, .int .i64 s.prio] ∧ SAsk s := by
  obtain ⟨fuel, hf⟩ := h
  obtain ⟨cs, rfl, hsz⟩ := okWide_struct Try.underlying23 hval
  have c7 : Try.prog.cellsOf 23 = 7 := by kernel_rfl
  obtain ⟨s, hs, ha⟩ := open_spec (by simpa [Value.cells] using hsz.trans c7) hf
  refine ⟨s, ?_, ha⟩
  congr 1
  apply Array.ext'
  simpa [Value.cells] using hs

end Go.Proofs.Ytpaabeadiokgoaa
