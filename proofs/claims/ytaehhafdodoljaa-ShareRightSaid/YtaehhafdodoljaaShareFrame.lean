/- Arguments that are amounts, uses, or lists of them, opened. -/
import Derived.Test.YtaehhafdodoljaaOpen
import Derived.Test.YtaehhafdodoljaaOpenNum
import Derived.Test.YtaehhafdodoljaaShareMem
import Derived.Test.YtaehhafdodoljaaGlob
namespace Go.Proofs.Ytaehhafdodoljaa
open Go.ChangeShapes Go.WideShapes Go.ChangeAt Go.RowKit Go.Deep

set_option maxRecDepth 100000 in
theorem open_f {H : Type} {enc : TypeId × Value → H} {W : World} {cs : List Value} {x : DataW H × List MemPlace} {fuel : Nat}
    (hl : cs.length = 1) (hf : DataW.trod enc Try.prog W 0 (fun _ => true) true fuel 22 cs = some x) : ∃ b, cs = [.float .f64 b] ∧ W64 b := by
  obtain ⟨v, rfl⟩ : ∃ v, cs = [v] := by
    match cs, hl with
    | [a], _ => exact ⟨a, rfl⟩
  cases fuel with
  | zero => simp [DataW.trod] at hf
  | succ n =>
    simp only [DataW.trod, Try.underlying22] at hf
    cases v with
    | float k b =>
      cases k with
      | f64 =>
        refine ⟨b, rfl, w64_of ?_⟩
        by_cases hw : (Lit.float .f64 b).wf = true
        · exact hw
        · simp [hw] at hf
      | f32 => simp at hf
    | _ => simp at hf
set_option maxRecDepth 100000 in
theorem open_RF {H : Type} {enc : TypeId × Value → H} {W : World} {b0 : Nat} {v : Value} {d : DataW H} {ps : List MemPlace}
    (hval : Value.okWide Try.prog W .any b0 23 v) (h : DataW.Trod enc Try.prog W 0 (fun _ => true) true 23 v d ps) :
    ∃ A n c xs, v = .slice A n c ∧ FAsk W A n c xs := by
  obtain ⟨fuel, hf⟩ := h
  obtain ⟨a', n', c', rfl⟩ := okWide_slice Try.underlying23 hval
  obtain ⟨A, n, c, xs, e, hr, h1, h2, h3⟩ := open_RN (E := EF) (C := 1) Try.underlying23 (by kernel_rfl) (by omega) (fun n cs y hl ht => by
    obtain ⟨z, e0, hw⟩ := open_f hl ht
    exact ⟨z, e0, hw⟩) hf
  simp [Value.cells] at e
  obtain ⟨rfl, rfl, rfl⟩ := e
  exact ⟨_, _, _, xs, rfl, hr, h1, h2, h3⟩
set_option maxRecDepth 100000 in
theorem open_use {H : Type} {enc : TypeId × Value → H} {W : World} {cs : List Value} {x : DataW H × List MemPlace} {fuel : Nat}
    (hl : cs.length = 3) (hf : DataW.trod enc Try.prog W 0 (fun _ => true) true fuel 25 cs = some x) :
    ∃ u : Us, cs = [.int .i64 u.who, .float .f64 u.had, .float .f64 u.weight] ∧ UsOk u := by
  obtain ⟨ys, n', hn', hy, hlen, hyl, hfs⟩ := DataW.trod_struct Try.underlying25 hf
  obtain ⟨v0, v1, v2, rfl⟩ : ∃ v0 v1 v2, cs = [v0, v1, v2] := by
    match cs, hl with
    | [a, b, c], _ => exact ⟨a, b, c, rfl⟩
  have ci : Try.prog.cellsOf 3 = 1 := by kernel_rfl
  have cf : Try.prog.cellsOf 22 = 1 := by kernel_rfl
  have h0 : DataW.trod enc Try.prog W 0 (fun _ => true) true n' 3 (List.take (Try.prog.cellsOf 3) [v0, v1, v2]) = ys[0]? := hfs 0 _ rfl
  have h1 : DataW.trod enc Try.prog W 0 (fun _ => true) true n' 22 (List.take (Try.prog.cellsOf 22) [v1, v2]) = ys[1]? := hfs 1 _ rfl
  have h2 : DataW.trod enc Try.prog W 0 (fun _ => true) true n' 22 (List.take (Try.prog.cellsOf 22) [v2]) = ys[2]? := hfs 2 _ rfl
  rw [ci] at h0
  rw [cf] at h1 h2
  obtain ⟨y0, y1, y2, rfl⟩ : ∃ y0 y1 y2, ys = [y0, y1, y2] := by
    match ys, hyl with
    | [a, b, c], _ => exact ⟨a, b, c, rfl⟩
  obtain ⟨z0, e0, _, w0⟩ := DataW.trod_int Try.underlying3 h0
  obtain ⟨z1, e1, w1⟩ := open_f rfl h1
  obtain ⟨z2, e2, w2⟩ := open_f rfl h2
  simp at e0 e1 e2
  subst e0 e1 e2
  exact ⟨⟨z0, z1, z2⟩, rfl, ⟨i64_wf w0, w1, w2⟩⟩
set_option maxRecDepth 100000 in
theorem open_U {H : Type} {enc : TypeId × Value → H} {W : World} {b0 : Nat} {v : Value} {d : DataW H} {ps : List MemPlace}
    (hval : Value.okWide Try.prog W .any b0 25 v) (h : DataW.Trod enc Try.prog W 0 (fun _ => true) true 25 v d ps) :
    ∃ u : Us, v = .agg #[.int .i64 u.who, .float .f64 u.had, .float .f64 u.weight] ∧ UsOk u := by
  obtain ⟨fuel, hf⟩ := h
  obtain ⟨cs, rfl, hsz⟩ := okWide_struct Try.underlying25 hval
  have c3 : Try.prog.cellsOf 25 = 3 := by kernel_rfl
  obtain ⟨u, hu, ha⟩ := open_use (by simpa [Value.cells] using hsz.trans c3) hf
  refine ⟨u, ?_, ha⟩
  congr 1
  apply Array.ext'
  simpa [Value.cells] using hu
set_option maxRecDepth 100000 in
theorem open_RU {H : Type} {enc : TypeId × Value → H} {W : World} {b0 : Nat} {v : Value} {d : DataW H} {ps : List MemPlace}
    (hval : Value.okWide Try.prog W .any b0 33 v) (h : DataW.Trod enc Try.prog W 0 (fun _ => true) true 33 v d ps) :
    ∃ A n c xs, v = .slice A n c ∧ UAsk W A n c xs := by
  obtain ⟨fuel, hf⟩ := h
  obtain ⟨a', n', c', rfl⟩ := okWide_slice Try.underlying33 hval
  obtain ⟨A, n, c, xs, e, hr, h1, h2, h3⟩ := open_RN (E := EU) (C := 3) Try.underlying33 (by kernel_rfl) (by omega) (fun n cs y hl ht => by
    obtain ⟨z, e0, hw⟩ := open_use hl ht
    exact ⟨z, e0, hw⟩) hf
  simp [Value.cells] at e
  obtain ⟨rfl, rfl, rfl⟩ := e
  exact ⟨_, _, _, xs, rfl, hr, h1, h2, h3⟩

end Go.Proofs.Ytaehhafdodoljaa
