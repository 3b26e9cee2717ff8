/- Plain facts for SlotKeeps: what a plan keeps, and what is new in it. -/
import Derived.Test.YtpoalgkgomljmaaGreatDoorZSlotRefC
import Derived.Test.YtpoalgkgomljmaaGreatDoorMg10
namespace Go.Proofs.YtpoalgkgomljmaaGreatDoor

/-- one that is new in a plan -/
def NewS (g : Gr) (use : List Int) (ws : List Wn) (t u : Int) (h : Hd) : Prop :=
  (∃ k, k < ws.length ∧ (ws.getD k wn0).id = h.id ∧ endsS (ws.getD k wn0).spec h.frm = h.to) ∧ partB h.things use = true ∧ h.to ≤ u ∧ t ≤ h.frm ∧ h.things.length ≤ g.length
structure KeepS (g : Gr) (use : List Int) (ws : List Wn) (t u : Int) (l out : Tb) : Prop where
  right : rightT out = true
  old : ∀ x ∈ l, x ∈ out
  le : l.length ≤ out.length
  new : ∀ x ∈ out, x ∈ l ∨ NewS g use ws t u x
section
variable {g : Gr} {use : List Int} {ws : List Wn} {t u : Int} {l out : Tb}
theorem keep_step {x : Wn} {k : Nat} (h : KeepS g use ws t u l out) (hk : k < ws.length) (hx : ws.getD k wn0 = x) (hb : firstBS g use out x.spec t u = true) (h0 : addE out (heldW g use out x t u) = 0) :
    KeepS g use ws t u l (addT out (heldW g use out x t u)) ∧ (addT out (heldW g use out x t u)).length = out.length + 1 := by
  have hm := add_ok.1 h0
  have he : addT out (heldW g use out x t u) = insT out (heldW g use out x t u) := add_yes hm
  rw [he]
  have hlen := ins_len hm.new
  refine ⟨⟨rightT_is.2 hm.right', fun y hy => hm.mem.2 (.inl (h.old y hy)), by rw [hlen]; have := h.le; omega, fun y hy => ?_⟩, hlen⟩
  rcases hm.mem.1 hy with h1 | h1
  · exact h.new y h1
  · right
    subst h1
    obtain ⟨z, e1, e2, hf⟩ := first_fits hb
    have hfs : firstS g use out x.spec t u = some z := by
      unfold firstBS at hb
      obtain ⟨z', hz⟩ := Option.isSome_iff_exists.1 hb
      have := (first_some hz).1
      rw [e1] at this
      rw [hz, this]
    refine ⟨⟨k, hk, by rw [hx]; rfl, by rw [hx]; rfl⟩, ?_, ?_, ?_, ?_⟩
    · show partB (firstLS g use out x.spec t u) use = true
      rw [e2]; exact gotS_part hf
    · show endsS x.spec (firstAtS g use out x.spec t u) ≤ u
      rw [e1]; exact hf.2.2.2.1
    · show t ≤ firstAtS g use out x.spec t u
      rw [e1]; exact firstS_from hfs
    · show (firstLS g use out x.spec t u).length ≤ g.length
      rw [e2, gotS_is hf]; exact findL_short
theorem planR_keep : ∀ (k : Nat) (out : Tb), k ≤ ws.length → KeepS g use ws t u l out → (planR g use t u out (ws.drop k)).2 = 0 →
    KeepS g use ws t u l (planR g use t u out (ws.drop k)).1 ∧ (planR g use t u out (ws.drop k)).1.length ≤ out.length + (ws.length - k) := by
  intro k out hk h h0
  by_cases hlt : k < ws.length
  · rw [wn_drop hlt] at h0 ⊢
    cases hb : firstBS g use out (ws.getD k wn0).spec t u with
    | false =>
      rw [planR_pass hb] at h0 ⊢
      have ih := planR_keep (k + 1) out (by omega) h h0
      exact ⟨ih.1, by omega⟩
    | true =>
      by_cases he : addE out (heldW g use out (ws.getD k wn0) t u) = 0
      · rw [planR_add hb he] at h0 ⊢
        obtain ⟨h1, h2⟩ := keep_step h hlt rfl hb he
        have ih := planR_keep (k + 1) _ (by omega) h1 h0
        exact ⟨ih.1, by omega⟩
      · rw [planR_err hb he] at h0
        exact absurd h0 he
  · rw [List.drop_of_length_le (by omega)] at h0 ⊢
    rw [planR] at h0 ⊢
    exact ⟨h, Nat.le_add_right _ _⟩
termination_by k => ws.length - k
/-- what a plan that tells no error keeps -/
theorem plan_keep (h0 : planE g use l ws t u = 0) : KeepS g use ws t u l (planT g use l ws t u) ∧ (planT g use l ws t u).length ≤ l.length + ws.length := by
  have hr : rightT l = true := by
    cases hr : rightT l with
    | true => rfl
    | false => unfold planE at h0; rw [if_neg (by rw [hr]; decide)] at h0; cases h0
  have h1 : (planR g use t u l ws).2 = 0 := by unfold planE at h0; rwa [if_pos hr] at h0
  have h2 := planR_keep (ws := ws) (l := l) 0 l (Nat.zero_le _) ⟨hr, fun _ h => h, Nat.le_refl _, fun _ h => .inl h⟩ (by rw [List.drop_zero]; exact h1)
  rw [List.drop_zero] at h2
  unfold planT
  rw [if_pos h0]
  exact h2
end

end Go.Proofs.YtpoalgkgomljmaaGreatDoor
