/- An argument that is a list of steps, opened; and what else the frames of layer 3's statements want. -/
import Derived.Test.YtkhnlbkghjjdnaaFrame
import Derived.Test.YtkhnlbkghjjdnaaStepFace
namespace Go.Proofs.Ytkhnlbkghjjdnaa
open Go.ChangeShapes Go.WideShapes Go.ChangeAt Go.RowKit Go.Deep

theorem step_fields : oneCellFields Try.prog (Try.prog.fieldsOf 57) = true := by kernel_rfl
/-- an argument that is a list of steps, opened -/
theorem open_RS {H : Type} {enc : TypeId × Value → H} {W : World} {b0 : Nat} {v : Value} {d : DataW H} {ps : List MemPlace}
    (hval : Value.okWide Try.prog W .any b0 26 v) (h : DataW.Trod enc Try.prog W 0 (fun _ => true) true 26 v d ps) :
    ∃ A n c p, v = .slice A n c ∧ RS W W.heap.size A n p ∧ (A = none → c = 0) ∧ n ≤ c ∧ n ≤ maxLen := by
  obtain ⟨fuel, hf⟩ := h
  obtain ⟨a', n', c', rfl⟩ := okWide_slice Try.underlying26 hval
  rcases open_slice_fields Try.underlying26 Try.underlying57 (by kernel_rfl) (by kernel_rfl) hf with ⟨h1, _⟩ | ⟨a, len, cap, m, h1, _, hl, hm, hmm, hi⟩
  · simp [Value.cells] at h1
    obtain ⟨rfl, rfl, rfl⟩ := h1
    exact ⟨none, 0, 0, [], rfl, RS.nil, fun _ => rfl, Nat.le_refl _, Nat.zero_le _⟩
  · simp [Value.cells] at h1
    obtain ⟨rfl, rfl, rfl⟩ := h1
    simp only [if_true] at hmm
    subst hmm
    have cell : ∀ i, i < n' → ∃ x y : Int, W.cell? (a.add (i * 2)) = some (.int .i64 x) ∧ W.cell? (a.add (i * 2 + 1)) = some (.int .i64 y) := by
      intro i hin
      obtain ⟨k, hk⟩ := hi i (by omega)
      obtain ⟨v0, y0, c0, t0⟩ := hk 0 _ rfl
      obtain ⟨v1, y1, c1, t1⟩ := hk 1 _ rfl
      obtain ⟨x, e0, _, _⟩ := DataW.trod_int Try.underlying2 t0
      obtain ⟨y, e1, _, _⟩ := DataW.trod_int Try.underlying3 t1
      simp at e0 e1
      subst e0 e1
      exact ⟨x, y, c0, c1⟩
    let num : Option Value → Int := fun o => match o with | some (.int _ z) => z | _ => 0
    let p : List (Int × Int) := (List.range n').map fun i => (num (W.cell? (a.add (i * 2))), num (W.cell? (a.add (i * 2 + 1))))
    refine ⟨some a, n', _, p, rfl, ⟨by simp [p], fun hn => ?_⟩, (fun e => by cases e), hl, by omega⟩
    obtain ⟨x0, _, h0, _⟩ := cell 0 (by omega)
    obtain ⟨b, off, spot⟩ := a
    have hs : spot = none := by simpa [Addr.add] using World.cell?_spot h0
    subst hs
    have hb : b < W.heap.size := by simpa [Addr.add] using World.block_lt_of_cell? W _ h0
    refine ⟨b, off, rfl, hb, fun j hj => ?_⟩
    obtain ⟨x, y, h1, h2⟩ := cell j hj
    have e : p.getD j (0, 0) = (x, y) := by
      show ((List.range n').map fun i => (num (W.cell? ((⟨b, off, none⟩ : Addr).add (i * 2))), num (W.cell? ((⟨b, off, none⟩ : Addr).add (i * 2 + 1))))).getD j (0, 0) = (x, y)
      simp only [List.getD, List.getElem?_map, List.getElem?_range hj, Option.map_some, Option.getD_some]
      rw [h1, h2]
    rw [e]
    rw [add_none] at h1 h2
    exact ⟨h1, by simpa [Nat.add_assoc] using h2⟩
theorem i64_wf {x : Int} (h : (Lit.int .i64 x).wf = true) : I64 x := by
  have h1 : IntKind.i64.min = -9223372036854775808 := rfl
  have h2 : IntKind.i64.max = 9223372036854775807 := rfl
  simp only [Lit.wf, Bool.and_eq_true, decide_eq_true_eq] at h
  unfold I64
  omega

end Go.Proofs.Ytkhnlbkghjjdnaa
