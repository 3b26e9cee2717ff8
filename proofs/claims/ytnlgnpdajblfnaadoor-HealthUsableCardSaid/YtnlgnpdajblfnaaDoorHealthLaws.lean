/- Plain facts of what may be used that the statements ask for: no program's text is walked here. -/
import Derived.Test.YtnlgnpdajblfnaaDoorHealthMath
namespace Go.Proofs.YtnlgnpdajblfnaaDoor

section
variable {g : Gr} {h : List Int}
theorem hAt_set {k j : Nat} {x : Int} (hk : k < h.length) : hAt (h.set k x) j = if j = k then x else hAt h j := by
  unfold hAt
  rw [List.getD, List.getD]
  by_cases e : j = k
  · subst e
    rw [if_pos rfl, List.getElem?_set_self hk]
    rfl
  · rw [if_neg e, List.getElem?_set_ne (fun e' => e e'.symm)]
theorem rightH_set (hr : rightH g h = true) {k : Nat} {x : Int} (h0 : 0 ≤ x) (h2 : x ≤ 2) : rightH g (h.set k x) = true := by
  obtain ⟨h1, hl, hx⟩ := rightH_is hr
  refine rightH_mk h1 (by rw [List.length_set]; exact hl) fun y hy => ?_
  rcases List.mem_or_eq_of_mem_set hy with hy | rfl
  · exact hx y hy
  · exact ⟨h0, h2⟩
theorem set_back {k : Nat} {x : Int} (hk : k < h.length) : (h.set k x).set k (hAt h k) = h := by
  rw [List.set_set]
  unfold hAt
  rw [List.getD, List.getElem?_eq_getElem hk]
  exact List.set_getElem_self hk
theorem new_len (hr : rightG g = true) : (newL g).length = g.length := by unfold newL; rw [if_pos hr, List.length_replicate]
theorem new_none (hr : rightG g = false) : newL g = [] := by unfold newL; rw [if_neg (by rw [hr]; simp)]
theorem new_right (hr : rightG g = true) : rightH g (newL g) = true := by
  refine rightH_mk hr (new_len hr) fun x hx => ?_
  unfold newL at hx
  rw [if_pos hr] at hx
  have := List.eq_of_mem_replicate hx
  omega
theorem new_at (hr : rightG g = true) {k : Nat} (hk : k < g.length) : hAt (newL g) k = 0 := by
  unfold newL hAt
  rw [if_pos hr, List.getD, List.getElem?_replicate, if_pos hk]
  rfl
theorem below_all (hr : rightH g h = true) {m : Int} (hm : ∀ j, j < g.length → hAt h j ≤ m) : (belowL g h m).length = g.length := by
  have hg := rightG_is (rightH_is hr).1
  rw [belowL_is hr]
  refine numsF_all fun k hk => ?_
  rw [decide_eq_true_eq, worst_iff hg k hk]
  exact fun j hj => hm j (by have := over_le hj; omega)
theorem below_none (hr : rightH g h = true) {m : Int} (hm : m < hAt h 0) : belowL g h m = [] := by
  have hg := rightG_is (rightH_is hr).1
  rw [belowL_is hr]
  unfold numsF
  rw [List.filter_eq_nil_iff.2]
  · rfl
  · intro k hk
    rw [List.mem_range] at hk
    rw [decide_eq_true_eq, worst_iff hg k hk]
    exact fun h' => by have := h' 0 (over_zero hg k hk); omega
/-- what is set on a thing says nothing of those that aren't under it -/
theorem worst_apart (hr : rightH g h = true) {n k : Nat} {x m : Int} (hn : n < g.length) (hk : k < g.length) (ho : overG g n k = false) : worstG g (h.set n x) k ≤ m ↔ worstG g h k ≤ m := by
  have hg := rightG_is (rightH_is hr).1
  have hl := (rightH_is hr).2.1
  rw [worst_iff hg k hk, worst_iff hg k hk]
  constructor
  · intro hh j hj
    have := hh j hj
    rw [hAt_set (by omega), if_neg (fun e => by subst e; rw [ho] at hj; cases hj)] at this
    exact this
  · intro hh j hj
    rw [hAt_set (by omega), if_neg (fun e => by subst e; rw [ho] at hj; cases hj)]
    exact hh j hj
theorem less_under (hr : rightH g h = true) {n : Nat} {x : Int} (hn : n < g.length) (h0 : 0 ≤ x) (h2 : x ≤ 2) (m : Int) : lessL (belowL g (h.set n x) m) (underL g (n : Int)) = lessL (belowL g h m) (underL g (n : Int)) := by
  have hrg := (rightH_is hr).1
  have hr' := rightH_set hr (k := n) h0 h2
  have ru := underL_right hrg hn
  refine right_ext (right_lessL _ _) (right_lessL _ _) fun y => ?_
  rw [mem_lessL (belowL_right m) ru, mem_lessL (belowL_right m) ru, mem_below hr', mem_below hr, mem_under hrg hn]
  have key : ∀ k : Nat, k < g.length → ¬ (∃ j : Nat, j < g.length ∧ overG g n j = true ∧ (k : Int) = j) → overG g n k = false := by
    intro k hk hno
    cases ho : overG g n k with
    | false => rfl
    | true => exact absurd ⟨k, hk, ho, rfl⟩ hno
  constructor
  · rintro ⟨⟨k, h1, h2, rfl⟩, hno⟩
    exact ⟨⟨k, h1, (worst_apart hr hn h1 (key k h1 hno)).1 h2, rfl⟩, hno⟩
  · rintro ⟨⟨k, h1, h2, rfl⟩, hno⟩
    exact ⟨⟨k, h1, (worst_apart hr hn h1 (key k h1 hno)).2 h2, rfl⟩, hno⟩
/-- set Down, nothing under it works -/
theorem down_apart (hr : rightH g h = true) {n : Nat} (hn : n < g.length) : apartB (belowL g (h.set n 2) 1) (underL g (n : Int)) = true := by
  have hrg := (rightH_is hr).1
  have hg := rightG_is hrg
  have hl := (rightH_is hr).2.1
  have hr' := rightH_set hr (k := n) (x := 2) (by omega) (by omega)
  rw [apart_iff (belowL_right 1) (underL_right hrg hn)]
  intro y hy hu
  obtain ⟨k, h1, h2, rfl⟩ := (mem_below hr').1 hy
  obtain ⟨j, h3, h4, e⟩ := (mem_under hrg hn).1 hu
  obtain rfl : k = j := by omega
  have := (worst_iff hg k h1).1 h2 n h4
  rw [hAt_set (by omega), if_pos rfl] at this
  omega
/-- marked worse -/
theorem worse_sub (hr : rightH g h = true) {n : Nat} {a b m : Int} (hn : n < g.length) (ha : 0 ≤ a) (hab : a ≤ b) (hb : b ≤ 2) : partB (belowL g (h.set n b) m) (belowL g (h.set n a) m) = true := by
  have hg := rightG_is (rightH_is hr).1
  have hl := (rightH_is hr).2.1
  have ra := rightH_set hr (k := n) (x := a) ha (by omega)
  have rb := rightH_set hr (k := n) (x := b) (by omega) hb
  rw [part_iff (belowL_right m) (belowL_right m)]
  intro y hy
  obtain ⟨k, h1, h2, rfl⟩ := (mem_below rb).1 hy
  refine (mem_below ra).2 ⟨k, h1, ?_, rfl⟩
  rw [worst_iff hg k h1] at h2 ⊢
  intro j hj
  have := h2 j hj
  rw [hAt_set (by omega)] at this ⊢
  split at this <;> omega
theorem worse_worst (hr : rightH g h = true) {n : Nat} {a b : Int} (hn : n < g.length) (ha : 0 ≤ a) (hab : a ≤ b) (hb : b ≤ 2) : worstL g (h.set n a) n ≤ worstL g (h.set n b) n := by
  have hg := rightG_is (rightH_is hr).1
  have hl := (rightH_is hr).2.1
  have ra := rightH_set hr (k := n) (x := a) ha (by omega)
  have rb := rightH_set hr (k := n) (x := b) (by omega) hb
  unfold worstL
  rw [if_pos ⟨ra, by omega, by rw [List.length_set]; omega⟩, if_pos ⟨rb, by omega, by rw [List.length_set]; omega⟩, Int.toNat_natCast, worst_iff hg n hn]
  intro j hj
  have := (worst_iff hg n hn (h := h.set n b)).1 (Int.le_refl _) j hj
  rw [hAt_set (by omega)] at this ⊢
  split at this <;> omega
end

end Go.Proofs.YtnlgnpdajblfnaaDoor
