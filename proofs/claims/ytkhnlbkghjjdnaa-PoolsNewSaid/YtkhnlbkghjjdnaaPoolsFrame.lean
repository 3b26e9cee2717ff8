/- Arguments that are lists of numbers, of steps, of profiles, opened. -/
import Derived.Test.YtkhnlbkghjjdnaaOpen
import Derived.Test.YtkhnlbkghjjdnaaStepFrame
import Derived.Test.YtkhnlbkghjjdnaaPoolsFace
namespace Go.Proofs.Ytkhnlbkghjjdnaa
open Go.ChangeShapes Go.WideShapes Go.ChangeAt Go.RowKit Go.Deep

/-- a number, in an int's bounds, as an element -/
def EJ : Elem Int := fun _ _ x vs => vs = [.int .i64 x] ∧ I64 x
theorem RN.rj {w : World} {B n : Nat} {A : Option Addr} {xs : List Int} (h : RN EJ 1 w (Lt B) A n xs) : RI w B A n xs ∧ ∀ x ∈ xs, I64 x := by
  have h' : RN EI 1 w (Lt B) A n xs := ⟨h.1, fun hn => by
    obtain ⟨b, off, e, hb, hc⟩ := h.2 hn
    exact ⟨b, off, e, hb, fun j x hx => let ⟨vs, h1, h2, h3⟩ := hc j x hx; ⟨vs, h1, h2, h3.1⟩⟩⟩
  refine ⟨h'.ri, fun x hx => ?_⟩
  obtain ⟨k, hk, rfl⟩ := List.getElem_of_mem hx
  obtain ⟨_, _, _, _, _, _, _, h3⟩ := RN.at h (List.getElem?_eq_getElem hk)
  exact h3.2
theorem open_RJ {H : Type} {enc : TypeId × Value → H} {W : World} {b0 : Nat} {v : Value} {d : DataW H} {ps : List MemPlace}
    (hval : Value.okWide Try.prog W .any b0 23 v) (h : DataW.Trod enc Try.prog W 0 (fun _ => true) true 23 v d ps) :
    ∃ A n c xs, v = .slice A n c ∧ RI W W.heap.size A n xs ∧ (∀ x ∈ xs, I64 x) ∧ (A = none → c = 0) ∧ n ≤ c ∧ n ≤ maxLen := by
  obtain ⟨fuel, hf⟩ := h
  obtain ⟨a', n', c', rfl⟩ := okWide_slice Try.underlying23 hval
  obtain ⟨A, n, c, xs, e, hr, h1, h2, h3⟩ := open_RN (E := EJ) (C := 1) Try.underlying23 (by kernel_rfl) (by omega) (fun n cs y _ ht => by
    obtain ⟨z, e0, _, hw⟩ := DataW.trod_int Try.underlying3 ht
    exact ⟨z, e0, i64_wf hw⟩) hf
  simp [Value.cells] at e
  obtain ⟨rfl, rfl, rfl⟩ := e
  obtain ⟨g1, g2⟩ := hr.rj
  exact ⟨_, _, _, xs, rfl, g1, g2, h1, h2, h3⟩
/-- one profile, of the cell that holds it -/
theorem open_step {H : Type} {enc : TypeId × Value → H} {W : World} {cs : List Value} {x : DataW H × List MemPlace} {fuel : Nat}
    (hf : DataW.trod enc Try.prog W 0 (fun _ => true) true fuel 26 cs = some x) : ∃ p, ES W (Lt W.heap.size) p cs := by
  rcases open_slice_fields Try.underlying26 Try.underlying57 (by kernel_rfl) (by kernel_rfl) hf with ⟨h1, _⟩ | ⟨a, n', c', m, h1, _, hl, hm, hmm, hi⟩
  · exact ⟨[], none, 0, 0, h1, RS.nil (w := W), fun _ => rfl, Nat.le_refl _, Nat.zero_le _⟩
  · simp only [if_true] at hmm
    subst hmm
    have cell : ∀ i, i < n' → ∃ x y : Int, W.cell? (a.add (i * 2)) = some (.int .i64 x) ∧ W.cell? (a.add (i * 2 + 1)) = some (.int .i64 y) := by
      intro i hin
      obtain ⟨k, hk⟩ := hi i (by omega)
      obtain ⟨v0, y0, c0, t0⟩ := hk 0 _ rfl
      obtain ⟨v1, y1, c1, t1⟩ := hk 1 _ rfl
      obtain ⟨x, e0, _, _⟩ := DataW.trod_int Try.underlying2 t0
      obtain ⟨y, e1, _, _⟩ := DataW.trod_int Try.underlying3 t1
      simp at e0 e1
      subst e0 e1
      exact ⟨x, y, c0, c1⟩
    let num : Option Value → Int := fun o => match o with | some (.int _ z) => z | _ => 0
    let p : List (Int × Int) := (List.range n').map fun i => (num (W.cell? (a.add (i * 2))), num (W.cell? (a.add (i * 2 + 1))))
    refine ⟨p, some a, n', _, h1, ⟨by simp [p], fun hn => ?_⟩, (fun e => by cases e), hl, by omega⟩
    obtain ⟨x0, _, h0, _⟩ := cell 0 (by omega)
    obtain ⟨b, off, spot⟩ := a
    have hs : spot = none := by simpa [Addr.add] using World.cell?_spot h0
    subst hs
    have hb : b < W.heap.size := by simpa [Addr.add] using World.block_lt_of_cell? W _ h0
    refine ⟨b, off, rfl, hb, fun j hj => ?_⟩
    obtain ⟨x, y, h1, h2⟩ := cell j hj
    have e : p.getD j (0, 0) = (x, y) := by
      show ((List.range n').map fun i => (num (W.cell? ((⟨b, off, none⟩ : Addr).add (i * 2))), num (W.cell? ((⟨b, off, none⟩ : Addr).add (i * 2 + 1))))).getD j (0, 0) = (x, y)
      simp only [List.getD, List.getElem?_map, List.getElem?_range hj, Option.map_some, Option.getD_some]
      rw [h1, h2]
    rw [e]
    rw [add_none] at h1 h2
    exact ⟨h1, by simpa [Nat.add_assoc] using h2⟩
theorem open_RSS {H : Type} {enc : TypeId × Value → H} {W : World} {b0 : Nat} {v : Value} {d : DataW H} {ps : List MemPlace}
    (hval : Value.okWide Try.prog W .any b0 22 v) (h : DataW.Trod enc Try.prog W 0 (fun _ => true) true 22 v d ps) :
    ∃ A n c ls, v = .slice A n c ∧ RSS W W.heap.size A n ls ∧ (A = none → c = 0) ∧ n ≤ c ∧ n ≤ maxLen := by
  obtain ⟨fuel, hf⟩ := h
  obtain ⟨a', n', c', rfl⟩ := okWide_slice Try.underlying22 hval
  obtain ⟨A, n, c, xs, e, hr, h1, h2, h3⟩ := open_RN (E := ES) (C := 1) Try.underlying22 (by kernel_rfl) (by omega) (fun n cs y _ ht => open_step ht) hf
  simp [Value.cells] at e
  obtain ⟨rfl, rfl, rfl⟩ := e
  exact ⟨_, _, _, xs, rfl, hr, h1, h2, h3⟩

end Go.Proofs.Ytkhnlbkghjjdnaa
