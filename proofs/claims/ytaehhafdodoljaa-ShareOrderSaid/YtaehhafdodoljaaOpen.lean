/- An argument that is a slice, opened: of any elements of which it is known how one reads. General. -/
import Derived.Test.YtaehhafdodoljaaFrame
import Derived.Test.YtaehhafdodoljaaReadN
namespace Go.Proofs.Ytaehhafdodoljaa
open Go.ChangeShapes Go.WideShapes Go.ChangeAt Go.RowKit Go.Deep

theorem i64_wf {x : Int} (h : (Lit.int .i64 x).wf = true) : I64 x := by
  have h1 : IntKind.i64.min = -9223372036854775808 := rfl
  have h2 : IntKind.i64.max = 9223372036854775807 := rfl
  simp only [Lit.wf, Bool.and_eq_true, decide_eq_true_eq] at h
  unfold I64
  omega
theorem u8_wf {x : Int} (h : (Lit.int .u8 x).wf = true) : 0 ≤ x ∧ x ≤ 255 := by
  have h1 : IntKind.u8.min = 0 := rfl
  have h2 : IntKind.u8.max = 255 := rfl
  simp only [Lit.wf, Bool.and_eq_true, decide_eq_true_eq] at h
  omega
theorem u16_wf {x : Int} (h : (Lit.int .u16 x).wf = true) : 0 ≤ x ∧ x ≤ 65535 := by
  have h1 : IntKind.u16.min = 0 := rfl
  have h2 : IntKind.u16.max = 65535 := rfl
  simp only [Lit.wf, Bool.and_eq_true, decide_eq_true_eq] at h
  omega
theorem u32_wf {x : Int} (h : (Lit.int .u32 x).wf = true) : 0 ≤ x ∧ x ≤ 4294967295 := by
  have h1 : IntKind.u32.min = 0 := rfl
  have h2 : IntKind.u32.max = 4294967295 := rfl
  simp only [Lit.wf, Bool.and_eq_true, decide_eq_true_eq] at h
  omega
theorem list_of_each {α : Type} {Q : Nat → α → Prop} : ∀ (n : Nat), (∀ i, i < n → ∃ a, Q i a) → ∃ xs : List α, xs.length = n ∧ ∀ j x, xs[j]? = some x → Q j x
  | 0, _ => ⟨[], rfl, fun j x h => by simp at h⟩
  | n + 1, h => by
    obtain ⟨xs, h1, h2⟩ := list_of_each n (fun i hi => h i (by omega))
    obtain ⟨a, ha⟩ := h n (by omega)
    refine ⟨xs ++ [a], by simp [h1], fun j x hj => ?_⟩
    rcases Nat.lt_trichotomy j n with hlt | heq | hgt
    · rw [List.getElem?_append_left (by omega)] at hj
      exact h2 j x hj
    · subst heq
      rw [List.getElem?_append_right (by omega), h1] at hj
      simp at hj
      subst hj
      exact ha
    · rw [List.getElem?_eq_none (by simp; omega)] at hj
      cases hj
theorem open_RN {H : Type} {enc : TypeId × Value → H} {α : Type} {E : Elem α} {t e : TypeId} {C : Nat} {W : World} {cs : List Value} {x : DataW H × List MemPlace} {fuel : Nat}
    (ht : Try.prog.underlying t = some (.slice e)) (hC : Try.prog.cellsOf e = C) (hC0 : 0 < C)
    (hread : ∀ (n : Nat) (cs : List Value) (y : DataW H × List MemPlace), cs.length = C → DataW.trod enc Try.prog W 0 (fun _ => true) true n e cs = some y → ∃ a : α, E W (Lt W.heap.size) a cs)
    (h : DataW.trod enc Try.prog W 0 (fun _ => true) true fuel t cs = some x) :
    ∃ A n c xs, cs = [.slice A n c] ∧ RN E C W (Lt W.heap.size) A n xs ∧ (A = none → c = 0) ∧ n ≤ c ∧ n ≤ maxLen := by
  rcases open_slice ht h with ⟨h1, _⟩ | ⟨a, len, cap, m, n, D, Pl, h1, _, hl, hm, hmm, _, hi⟩
  · exact ⟨none, 0, 0, [], h1, RN.nil, fun _ => rfl, Nat.le_refl _, Nat.zero_le _⟩
  · simp only [if_true] at hmm
    subst hmm
    rw [hC] at hi
    obtain ⟨xs, hx1, hx2⟩ := list_of_each (Q := fun i (y : α) => ∃ vs : List Value, vs.length = C ∧ (∀ k v, vs[k]? = some v → W.cell? (a.add (i * C + k)) = some v) ∧ E W (Lt W.heap.size) y vs) len (by
      intro i hil
      obtain ⟨vs, hc, htr⟩ := hi i (by omega)
      obtain ⟨_, hcl, hat⟩ := World.cells?_some hc
      obtain ⟨y, hy⟩ := hread _ _ _ hcl htr
      refine ⟨y, vs, hcl, fun k v hv => ?_, hy⟩
      have hk : k < C := by rw [← hcl]; exact (List.getElem?_eq_some_iff.1 hv).1
      rw [← add_add, hat k hk, hv])
    refine ⟨some a, len, _, xs, h1, ⟨hx1, fun hn => ?_⟩, (fun e => by cases e), hl, by omega⟩
    obtain ⟨y0, hy0⟩ : ∃ y, xs[0]? = some y := ⟨_, List.getElem?_eq_getElem (by omega)⟩
    obtain ⟨vs0, hl0, hc0, _⟩ := hx2 0 y0 hy0
    have h0 := hc0 0 _ (List.getElem?_eq_getElem (by omega))
    obtain ⟨b, off, spot⟩ := a
    have hs : spot = none := by simpa [Addr.add] using World.cell?_spot h0
    subst hs
    have hb : b < W.heap.size := by simpa [Addr.add] using World.block_lt_of_cell? W _ h0
    refine ⟨b, off, rfl, hb, fun j y hj => ?_⟩
    obtain ⟨vs, k1, k2, k3⟩ := hx2 j y hj
    refine ⟨vs, k1, fun i v hv => ?_, k3⟩
    have := k2 i v hv
    rwa [add_none] at this

end Go.Proofs.Ytaehhafdodoljaa
