/- How bad a thing is, and what may be used, in plain words. No program's text is walked here. -/
import Derived.Test.YtnlgnpdajblfnaaDoorGraphLaws
namespace Go.Proofs.YtnlgnpdajblfnaaDoor

def hAt (h : List Int) (k : Nat) : Int := h.getD k 0
def rightHB (h : List Int) : Bool := h.all fun x => decide (0 ≤ x ∧ x ≤ 2)
def rightH (g : Gr) (h : List Int) : Bool := rightHB h && (rightG g && decide (g.length = h.length))
/-- how bad a thing is: up the chain -/
def worstF (g : Gr) (h : List Int) : Nat → Nat → Int
  | 0, k => hAt h k
  | f + 1, k => if k = 0 then hAt h 0 else max (hAt h k) (worstF g h f (par g k))
def worstG (g : Gr) (h : List Int) (k : Nat) : Int := worstF g h k k
def worstL (g : Gr) (h : List Int) (n : Int) : Int := if rightH g h = true ∧ 0 ≤ n ∧ n < h.length then worstG g h n.toNat else 2
def belowL (g : Gr) (h : List Int) (m : Int) : List Int := if rightH g h = true then numsF (fun k => decide (worstG g h k ≤ m)) g.length else []
def newL (g : Gr) : List Int := if rightG g = true then List.replicate g.length 0 else []
def setL (g : Gr) (h : List Int) (n how : Int) : List Int × Int :=
  if ¬ (rightH g h = true ∧ 0 ≤ how ∧ how ≤ 2) then (h, 1) else if n < 0 ∨ (h.length : Int) ≤ n then (h, 6) else (h.set n.toNat how, 0)

theorem rightH_is {g : Gr} {h : List Int} (hr : rightH g h = true) : rightG g = true ∧ h.length = g.length ∧ ∀ x ∈ h, 0 ≤ x ∧ x ≤ 2 := by
  unfold rightH rightHB at hr
  rw [Bool.and_eq_true, Bool.and_eq_true, decide_eq_true_eq, List.all_eq_true] at hr
  exact ⟨hr.2.1, hr.2.2.symm, fun x hx => by simpa using hr.1 x hx⟩
theorem rightH_mk {g : Gr} {h : List Int} (h1 : rightG g = true) (h2 : h.length = g.length) (h3 : ∀ x ∈ h, 0 ≤ x ∧ x ≤ 2) : rightH g h = true := by
  unfold rightH rightHB
  rw [Bool.and_eq_true, Bool.and_eq_true, decide_eq_true_eq, List.all_eq_true]
  exact ⟨fun x hx => by simpa using h3 x hx, h1, h2.symm⟩
theorem hAt_mem {h : List Int} {k : Nat} (hk : k < h.length) : hAt h k ∈ h := by
  unfold hAt
  rw [List.getD, List.getElem?_eq_getElem hk]
  exact List.getElem_mem hk
theorem hAt_bounds {g : Gr} {h : List Int} (hr : rightH g h = true) {k : Nat} (hk : k < g.length) : 0 ≤ hAt h k ∧ hAt h k ≤ 2 := by
  obtain ⟨_, h2, h3⟩ := rightH_is hr
  exact h3 _ (hAt_mem (by omega))

section
variable {g : Gr} {h : List Int} (hg : RightG g)
include hg
theorem worstF_more : ∀ (f : Nat) (k : Nat), k < g.length → k ≤ f → worstF g h f k = worstF g h k k := by
  have hg' := hg
  intro f
  induction f using Nat.strongRecOn with
  | _ f ih =>
    intro k hk hf
    rcases Nat.eq_zero_or_pos k with h0 | h0
    · subst h0
      cases f with
      | zero => rfl
      | succ f => show (if (0 : Nat) = 0 then hAt h 0 else _) = hAt h 0; rw [if_pos rfl]
    · obtain ⟨f', rfl⟩ : ∃ f', f = f' + 1 := ⟨f - 1, by omega⟩
      obtain ⟨k', rfl⟩ : ∃ k', k = k' + 1 := ⟨k - 1, by omega⟩
      have hp := (hg.up (k' + 1) (by omega) hk).2
      show (if k' + 1 = 0 then _ else max _ (worstF g h f' (par g (k' + 1)))) = (if k' + 1 = 0 then _ else max _ (worstF g h k' (par g (k' + 1))))
      rw [if_neg (by omega), if_neg (by omega), ih f' (by omega) _ (by omega) (by omega)]
      by_cases hkf : k' = f'
      · subst hkf; rw [ih k' (by omega) _ (by omega) (by omega)]
      · rw [ih k' (by omega) _ (by omega) (by omega)]
theorem worst_up {k : Nat} (hk : k < g.length) (h0 : 0 < k) : worstG g h k = max (hAt h k) (worstG g h (par g k)) := by
  obtain ⟨k', rfl⟩ : ∃ k', k = k' + 1 := ⟨k - 1, by omega⟩
  have hp := (hg.up (k' + 1) (by omega) hk).2
  show (if k' + 1 = 0 then hAt h 0 else max (hAt h (k' + 1)) (worstF g h k' (par g (k' + 1)))) = _
  rw [if_neg (by omega), worstF_more hg k' (par g (k' + 1)) (by omega) (by omega)]
  rfl
omit hg in
theorem worst_top : worstG g h 0 = hAt h 0 := rfl
/-- it is as bad as the worst of all that it is part of -/
theorem worst_iff {m : Int} : ∀ (k : Nat), k < g.length → (worstG g h k ≤ m ↔ ∀ j, overG g j k = true → hAt h j ≤ m) := by
  intro k
  induction k using Nat.strongRecOn with
  | _ k ih =>
    intro hk
    rcases Nat.eq_zero_or_pos k with h0 | h0
    · subst h0
      rw [worst_top]
      constructor
      · intro hm j hj
        have := over_le hj
        obtain rfl : j = 0 := by omega
        exact hm
      · intro hm; exact hm 0 over_self
    · have hp := (hg.up k h0 hk).2
      rw [worst_up hg hk h0, show (max (hAt h k) (worstG g h (par g k)) ≤ m ↔ hAt h k ≤ m ∧ worstG g h (par g k) ≤ m) from by omega, ih _ hp (by omega)]
      constructor
      · rintro ⟨h1, h2⟩ j hj
        by_cases hjk : j < k
        · rw [over_up hg hk hjk] at hj
          exact h2 j hj
        · rw [over_end hjk] at hj
          simp at hj
          subst hj
          exact h1
      · intro hm
        refine ⟨hm k over_self, fun j hj => hm j ?_⟩
        have := over_le hj
        rw [over_up hg hk (by omega)]
        exact hj
end

section
variable {g : Gr} {h : List Int}
theorem belowL_is (hr : rightH g h = true) (m : Int) : belowL g h m = numsF (fun k => decide (worstG g h k ≤ m)) g.length := by unfold belowL; rw [if_pos hr]
theorem belowL_right (m : Int) : rightB (belowL g h m) = true := by
  unfold belowL
  split
  · rename_i hr
    exact numsF_right _ (rightG_is (rightH_is hr).1).few
  · rfl
theorem belowL_len (m : Int) : (belowL g h m).length ≤ 256 := by
  unfold belowL
  split
  · rename_i hr
    exact Nat.le_trans (numsF_len _ _) (rightG_is (rightH_is hr).1).few
  · exact Nat.zero_le _
theorem mem_below (hr : rightH g h = true) {m x : Int} : x ∈ belowL g h m ↔ ∃ k : Nat, k < g.length ∧ worstG g h k ≤ m ∧ x = k := by
  rw [belowL_is hr, mem_numsF]
  constructor
  · rintro ⟨k, h1, h2, h3⟩; exact ⟨k, h1, by simpa using h2, h3⟩
  · rintro ⟨k, h1, h2, h3⟩; exact ⟨k, h1, by simpa using h2, h3⟩
theorem below_sub (hr : rightH g h = true) {m m' : Int} (hm : m ≤ m') : ∀ x, x ∈ belowL g h m → x ∈ belowL g h m' := by
  intro x hx
  obtain ⟨k, h1, h2, h3⟩ := (mem_below hr).1 hx
  exact (mem_below hr).2 ⟨k, h1, by omega, h3⟩
/-- what is no worse is whole: all above it is no worse -/
theorem below_whole (hr : rightH g h = true) (m : Int) : wholeL g (belowL g h m) = belowL g h m := by
  obtain ⟨hrg, hl, _⟩ := rightH_is hr
  have hg := rightG_is hrg
  have hok : wholeOk g (belowL g h m) = true := by
    unfold wholeOk
    rw [hrg, belowL_right, decide_eq_true]
    · rfl
    · intro x hx
      obtain ⟨k, hk, _, rfl⟩ := (mem_below hr).1 hx
      omega
  rw [wholeL_is hok, belowL_is hr]
  refine numsF_ext fun k hk => ?_
  rw [Bool.eq_iff_iff, anyOver_iff, decide_eq_true_eq]
  constructor
  · rintro ⟨x, hx, ho⟩
    obtain ⟨j, hj, hw, rfl⟩ := mem_numsF.1 hx
    rw [Int.toNat_natCast] at ho
    have hw' : worstG g h j ≤ m := by simpa using hw
    rw [worst_iff hg j hj] at hw'
    rw [worst_iff hg k hk]
    exact fun i hi => hw' i (over_trans hg j hj ho hi)
  · intro hw
    exact ⟨(k : Int), mem_numsF.2 ⟨k, hk, by simpa using hw, rfl⟩, by rw [Int.toNat_natCast]; exact over_self⟩
/-- what works and may not be used has something above it that is to be drained -/
theorem drained (hr : rightH g h = true) {k : Nat} (hk : k < g.length) (h1 : worstG g h k ≤ 1) (h0 : ¬ worstG g h k ≤ 0) : ∃ j, overG g j k = true ∧ hAt h j = 1 := by
  have hg := rightG_is (rightH_is hr).1
  rw [worst_iff hg k hk] at h1 h0
  obtain ⟨j, hj⟩ := Classical.not_forall.1 h0
  have ho : overG g j k = true := by
    cases hoo : overG g j k with
    | true => rfl
    | false => exact absurd (fun h' => by rw [hoo] at h'; cases h') hj
  have := h1 j ho
  have hj' : ¬ hAt h j ≤ 0 := fun h' => hj (fun _ => h')
  exact ⟨j, ho, by omega⟩
end

theorem rightHB_no {h : List Int} {k : Nat} (hk : k < h.length) (hx : ¬ (0 ≤ h.getD k 0 ∧ h.getD k 0 ≤ 2)) : rightHB h = false := by
  unfold rightHB
  rw [List.all_eq_false]
  refine ⟨h[k], List.getElem_mem hk, ?_⟩
  rw [List.getD, List.getElem?_eq_getElem hk] at hx
  simpa using hx
theorem rightHB_yes {h : List Int} (hx : ∀ k, k < h.length → 0 ≤ h.getD k 0 ∧ h.getD k 0 ≤ 2) : rightHB h = true := by
  unfold rightHB
  rw [List.all_eq_true]
  intro x hm
  obtain ⟨k, hk, rfl⟩ := List.getElem_of_mem hm
  have := hx k hk
  rw [List.getD, List.getElem?_eq_getElem hk] at this
  simpa using this

theorem setL_bad {g : Gr} {h : List Int} {a how : Int} (e : ¬ (rightH g h = true ∧ 0 ≤ how ∧ how ≤ 2)) : setL g h a how = (h, 1) := by unfold setL; rw [if_pos e]
theorem setL_none {g : Gr} {h : List Int} {a how : Int} (e : rightH g h = true ∧ 0 ≤ how ∧ how ≤ 2) (e2 : a < 0 ∨ (h.length : Int) ≤ a) : setL g h a how = (h, 6) := by unfold setL; rw [if_neg (fun h' => h' e), if_pos e2]
theorem setL_ok {g : Gr} {h : List Int} {k : Nat} {how : Int} (e : rightH g h = true ∧ 0 ≤ how ∧ how ≤ 2) (e2 : k < h.length) : setL g h (k : Int) how = (h.set k how, 0) := by unfold setL; rw [if_neg (fun h' => h' e), if_neg (by omega), Int.toNat_natCast]

end Go.Proofs.YtnlgnpdajblfnaaDoor
