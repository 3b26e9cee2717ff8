/- What set.Join, Meet, Less, Has, Part and Apart answer: of two lists of int, what the document says of sets; the table of trailing zeros as Go's text lays it. -/
import Derived.Test.YtnlgnpdajblfnaaSetBoth
import Derived.Test.YtnlgnpdajblfnaaNums
import Derived.Test.YtnlgnpdajblfnaaSetList
namespace Go.Proofs.Ytnlgnpdajblfnaa
open Go.RowKit
attribute [local go_sem] alloc_drewN setCell_drewN

/-- 'a slice that holds these numbers, in new memory', kept from the walk -/
def Gives (l : List Int) (w : World) (e : Ending) (w' : World) : Prop :=
  (∃ A c, l.length ≤ c ∧ e = .returned (.slice A l.length c) ∧ RI w' w'.heap.size A l.length l) ∧ Below w.heap.size w w'
theorem gives_of_own {l : List Int} {w w' : World} {B : Nat} {v : Value} (h : w'.ownsRow B 3 1 v l.length (l.map (Value.int .i64))) (hb : Below w.heap.size w w') : Gives l w (.returned v) w' := by
  rcases h.2 with ⟨hv, h0⟩ | ⟨g, cap, cur, hv, _, _, hcap, _⟩
  · subst hv
    have hl : l = [] := List.eq_nil_of_length_eq_zero h0
    subst hl
    exact ⟨⟨none, 0, Nat.le_refl _, rfl, RI.nil⟩, hb⟩
  · subst hv
    exact ⟨⟨_, _, hcap, rfl, RI.of_own h⟩, hb⟩

theorem IPost.gives {l : List Int} {w w' : World} {e : Ending} (h : IPost l w e w') : Gives l w e w' := by
  obtain ⟨⟨A, c, h1, h2, _, h4⟩, hb⟩ := h
  exact ⟨⟨A, c, h4, h1, h2⟩, hb⟩
theorem four_or {p q : Int → Bool} {a0 a1 a2 a3 b0 b1 b2 b3 : Nat} (h : Four p a0 a1 a2 a3) (k : Four q b0 b1 b2 b3) : Four (fun n => p n || q n) (a0 ||| b0) (a1 ||| b1) (a2 ||| b2) (a3 ||| b3) := by
  obtain ⟨rfl, rfl, rfl, rfl⟩ := h
  obtain ⟨rfl, rfl, rfl, rfl⟩ := k
  exact ⟨wordOf_or _ _ _, wordOf_or _ _ _, wordOf_or _ _ _, wordOf_or _ _ _⟩
theorem four_and {p q : Int → Bool} {a0 a1 a2 a3 b0 b1 b2 b3 : Nat} (h : Four p a0 a1 a2 a3) (k : Four q b0 b1 b2 b3) : Four (fun n => p n && q n) (a0 &&& b0) (a1 &&& b1) (a2 &&& b2) (a3 &&& b3) := by
  obtain ⟨rfl, rfl, rfl, rfl⟩ := h
  obtain ⟨rfl, rfl, rfl, rfl⟩ := k
  exact ⟨wordOf_and _ _ _, wordOf_and _ _ _, wordOf_and _ _ _, wordOf_and _ _ _⟩
theorem four_less {p q : Int → Bool} {a0 a1 a2 a3 b0 b1 b2 b3 : Nat} (h : Four p a0 a1 a2 a3) (k : Four q b0 b1 b2 b3) : Four (fun n => p n && !q n) (a0 &&& neg64 b0) (a1 &&& neg64 b1) (a2 &&& neg64 b2) (a3 &&& neg64 b3) := by
  obtain ⟨rfl, rfl, rfl, rfl⟩ := h
  obtain ⟨rfl, rfl, rfl, rfl⟩ := k
  exact ⟨wordOf_andNot _ _ _, wordOf_andNot _ _ _, wordOf_andNot _ _ _, wordOf_andNot _ _ _⟩

theorem joinL_pick {xs ys : List Int} (hx : rightB xs = true) (hy : rightB ys = true) : pickL (fun n => inB xs n || inB ys n) = joinL xs ys := by
  unfold joinL whichL
  rw [hx, hy]
  rfl


theorem meetL_pick {xs ys : List Int} (hx : rightB xs = true) (hy : rightB ys = true) : pickL (fun n => inB xs n && inB ys n) = meetL xs ys := by
  unfold meetL whichL
  rw [hx, hy]
  rfl


theorem lessL_pick {xs ys : List Int} (hx : rightB xs = true) (hy : rightB ys = true) : pickL (fun n => inB xs n && !inB ys n) = lessL xs ys := by
  unfold lessL whichL
  rw [hx, hy]
  rfl



end Go.Proofs.Ytnlgnpdajblfnaa
