/- A table with one holding more, built from the front: what stands when the first k have been looked at. No program's text is walked here. -/
import Derived.Test.YtchogijdkagiiaaGreatDoorMg06
namespace Go.Proofs.YtchogijdkagiiaaGreatDoor

def greatP (l : Tb) (h : Hd) (k : Nat) : Bool := (l.take k).any fun x => decide (h.id < x.id)
def outT (l : Tb) (h : Hd) (k : Nat) : Tb := if greatP l h k = true then insT (l.take k) h else l.take k
section
variable {l : Tb} {h : Hd} {k : Nat}
theorem take_next_hd (hk : k < l.length) : l.take (k + 1) = l.take k ++ [l.getD k hd0] := by rw [List.take_succ_eq_append_getElem hk, getD_hd hk]
theorem great_succ (hk : k < l.length) : greatP l h (k + 1) = (greatP l h k || decide (h.id < (l.getD k hd0).id)) := by
  unfold greatP
  rw [take_next_hd hk, List.any_append]
  simp
theorem great_lt (hl : RightT l) (hk : k < l.length) (hg : greatP l h k = true) : h.id < (l.getD k hd0).id := by
  unfold greatP at hg
  obtain ⟨x, hx, hlt⟩ := List.any_eq_true.1 hg
  rw [decide_eq_true_eq] at hlt
  have hp := hl.ids
  rw [show l = l.take k ++ l.drop k from (List.take_append_drop k l).symm, List.pairwise_append] at hp
  have := hp.2.2 x hx (l.getD k hd0) (by
    rw [getD_hd hk, List.mem_iff_getElem]
    exact ⟨0, by rw [List.length_drop]; omega, by simp⟩)
  omega
theorem low_ins (hn : ∀ x ∈ l, x.id ≠ h.id) (hg : greatP l h k = false) : (l.take k).filter (fun x => decide (x.id < h.id)) = l.take k ∧ (l.take k).filter (fun x => decide (h.id < x.id)) = [] := by
  unfold greatP at hg
  rw [List.any_eq_false] at hg
  refine ⟨List.filter_eq_self.2 fun x hx => ?_, List.filter_eq_nil_iff.2 fun x hx => hg x hx⟩
  have h1 := hg x hx
  rw [decide_eq_true_eq] at h1
  have h2 := hn x (List.mem_of_mem_take hx)
  rw [decide_eq_true_eq]
  omega
theorem out_zero : outT l h 0 = [] := by unfold outT greatP; simp
theorem out_great (hl : RightT l) (hk : k < l.length) (hg : greatP l h k = true) : greatP l h (k + 1) = true ∧ outT l h (k + 1) = outT l h k ++ [l.getD k hd0] := by
  have hlt := great_lt hl hk hg
  have h1 : greatP l h (k + 1) = true := by rw [great_succ hk, hg]; rfl
  refine ⟨h1, ?_⟩
  unfold outT
  rw [if_pos h1, if_pos hg]
  unfold insT
  rw [take_next_hd hk, List.filter_append, List.filter_append]
  have e1 : [l.getD k hd0].filter (fun x => decide (x.id < h.id)) = [] := List.filter_eq_nil_iff.2 fun x hx => by
    rw [List.mem_singleton] at hx; subst hx; rw [decide_eq_true_eq]; omega
  have e2 : [l.getD k hd0].filter (fun x => decide (h.id < x.id)) = [l.getD k hd0] := List.filter_eq_self.2 fun x hx => by
    rw [List.mem_singleton] at hx; subst hx; rw [decide_eq_true_eq]; omega
  rw [e1, e2]
  simp
theorem out_here (hn : ∀ x ∈ l, x.id ≠ h.id) (hk : k < l.length) (hg : greatP l h k = false) (hlt : h.id < (l.getD k hd0).id) : greatP l h (k + 1) = true ∧ outT l h (k + 1) = (outT l h k ++ [h]) ++ [l.getD k hd0] := by
  have h1 : greatP l h (k + 1) = true := by rw [great_succ hk, hg, decide_eq_true hlt]; rfl
  refine ⟨h1, ?_⟩
  obtain ⟨f1, f2⟩ := low_ins hn hg
  unfold outT
  rw [if_pos h1, if_neg (by rw [hg]; simp)]
  unfold insT
  rw [take_next_hd hk, List.filter_append, List.filter_append, f1, f2]
  have e1 : [l.getD k hd0].filter (fun x => decide (x.id < h.id)) = [] := List.filter_eq_nil_iff.2 fun x hx => by
    rw [List.mem_singleton] at hx; subst hx; rw [decide_eq_true_eq]; omega
  have e2 : [l.getD k hd0].filter (fun x => decide (h.id < x.id)) = [l.getD k hd0] := List.filter_eq_self.2 fun x hx => by
    rw [List.mem_singleton] at hx; subst hx; rw [decide_eq_true_eq]; omega
  rw [e1, e2]
  simp
theorem out_low (hk : k < l.length) (hg : greatP l h k = false) (hlt : ¬ h.id < (l.getD k hd0).id) : greatP l h (k + 1) = false ∧ outT l h (k + 1) = outT l h k ++ [l.getD k hd0] := by
  have h1 : greatP l h (k + 1) = false := by rw [great_succ hk, hg, decide_eq_false hlt]; rfl
  refine ⟨h1, ?_⟩
  unfold outT
  rw [if_neg (by rw [h1]; simp), if_neg (by rw [hg]; simp), take_next_hd hk]
theorem out_end (hn : ∀ x ∈ l, x.id ≠ h.id) : (greatP l h l.length = true → outT l h l.length = insT l h) ∧ (greatP l h l.length = false → outT l h l.length ++ [h] = insT l h) := by
  constructor
  · intro hg
    unfold outT
    rw [if_pos hg, List.take_length]
  · intro hg
    obtain ⟨f1, f2⟩ := low_ins hn hg
    rw [List.take_length] at f1 f2
    unfold outT insT
    rw [if_neg (by rw [hg]; simp), List.take_length, f1, f2]
theorem out_len (k : Nat) (hn : ∀ x ∈ l, x.id ≠ h.id) : (outT l h k).length ≤ l.length + 1 := by
  unfold outT
  split
  · rw [ins_len (fun x hx => hn x (List.mem_of_mem_take hx)), List.length_take]; omega
  · rw [List.length_take]; omega
end

end Go.Proofs.YtchogijdkagiiaaGreatDoor
