/- What a job is, and what becomes of it by what happens to it, in plain words. No program's text is walked here. -/
import Derived.Test.YtpaabeadiokgoaaSpecMath
import Derived.Test.YtpaabeadiokgoaaWhen
namespace Go.Proofs.Ytpaabeadiokgoaa

/-- a job -/
structure Jb where
  id : Int
  spec : Sp
  needs : List Int
  state : Int
  came : Int
  frm : Int
  to : Int
def jb0 : Jb := ⟨0, sp0, [], 0, 0, 0, 0⟩
def TimeOk (t : Int) : Prop := 0 ≤ t ∧ t ≤ 4611686018427387904
instance (t : Int) : Decidable (TimeOk t) := by unfold TimeOk; infer_instance
/-- the need at a place is a number from 1 on, less than the job's, greater than the one ahead -/
def NeedAt (id : Int) (l : List Int) (i : Nat) : Prop := 1 ≤ l.getD i 0 ∧ l.getD i 0 < id ∧ (0 < i → l.getD (i - 1) 0 < l.getD i 0)
instance (id : Int) (l : List Int) (i : Nat) : Decidable (NeedAt id l i) := by unfold NeedAt; infer_instance
def FromOk (j : Jb) : Prop := if j.state = 0 ∨ j.state = 1 ∨ j.state = 6 then j.frm = 0 else (j.came ≤ j.frm ∨ (j.state = 5 ∧ j.frm = 0))
instance (j : Jb) : Decidable (FromOk j) := by unfold FromOk; infer_instance
def ToOk (j : Jb) : Prop := if j.state < 3 then j.to = 0 else j.came ≤ j.to ∧ j.frm ≤ j.to
instance (j : Jb) : Decidable (ToOk j) := by unfold ToOk; infer_instance
def HeadOk (j : Jb) : Prop := (1 ≤ j.id ∧ j.id ≤ 1073741824) ∧ rightS j.spec = true ∧ j.needs.length ≤ 16 ∧ TimeOk j.came
instance (j : Jb) : Decidable (HeadOk j) := by unfold HeadOk; infer_instance
def NeedsOk (j : Jb) : Prop := ∀ i, i < j.needs.length → NeedAt j.id j.needs i
instance (j : Jb) : Decidable (NeedsOk j) := by unfold NeedsOk; infer_instance
def StateOk (j : Jb) : Prop := (0 ≤ j.state ∧ j.state ≤ 6) ∧ TimeOk j.frm ∧ TimeOk j.to
instance (j : Jb) : Decidable (StateOk j) := by unfold StateOk; infer_instance
def RightJ (j : Jb) : Prop := HeadOk j ∧ NeedsOk j ∧ StateOk j ∧ FromOk j ∧ ToOk j
instance (j : Jb) : Decidable (RightJ j) := by unfold RightJ; infer_instance
def rightJ (j : Jb) : Bool := decide (RightJ j)
/-- the state behind it; -1: it doesn't happen -/
def nextZ (state what : Int) : Int :=
  if state = 0 then (if what = 1 then 1 else if what = 3 then 2 else if what = 6 then 5 else if what = 7 then 6 else -1)
  else if state = 1 then (if what = 2 then 0 else if what = 6 then 5 else if what = 7 then 6 else -1)
  else if state = 2 then (if what = 4 then 3 else if what = 5 then 4 else if what = 6 then 5 else -1)
  else -1
def AskOk (j : Jb) (what now : Int) : Prop := RightJ j ∧ (1 ≤ what ∧ what ≤ 7) ∧ TimeOk now ∧ j.came ≤ now ∧ j.frm ≤ now
instance (j : Jb) (what now : Int) : Decidable (AskOk j what now) := by unfold AskOk; infer_instance
def doE (j : Jb) (what now : Int) : Int := if AskOk j what now then (if nextZ j.state what < 0 then 8 else 0) else 1
/-- the job in the state s -/
def intoJ (j : Jb) (s now : Int) : Jb := { j with state := s, frm := if s = 2 then now else j.frm, to := if 2 < s then now else j.to }
def doJ (j : Jb) (what now : Int) : Jb := if doE j what now = 0 then intoJ j (nextZ j.state what) now else j
def overJ (s : Int) : Bool := decide (3 ≤ s ∧ s ≤ 6)
def nameJ (s : Int) : ByteArray :=
  if s = 0 then ⟨#[119, 97, 105, 116, 115]⟩ else if s = 1 then ⟨#[104, 111, 108, 100, 115]⟩ else if s = 2 then ⟨#[114, 117, 110, 115]⟩ else if s = 3 then ⟨#[100, 111, 110, 101]⟩
  else if s = 4 then ⟨#[101, 110, 100, 101, 100]⟩ else if s = 5 then ⟨#[99, 97, 110, 99, 101, 108, 108, 101, 100]⟩ else if s = 6 then ⟨#[114, 101, 102, 117, 115, 101, 100]⟩ else ⟨#[]⟩

section
variable {j : Jb} {what now s : Int}
theorem next_range (state what : Int) : -1 ≤ nextZ state what ∧ nextZ state what ≤ 6 := by
  unfold nextZ
  repeat' split
  all_goals omega
theorem do_ok : doE j what now = 0 ↔ AskOk j what now ∧ 0 ≤ nextZ j.state what := by
  unfold doE
  constructor
  · intro h
    split at h
    · rename_i h1
      split at h
      · omega
      · exact ⟨h1, by omega⟩
    · omega
  · rintro ⟨h1, h2⟩
    rw [if_pos h1, if_neg (by omega)]
theorem doJ_ok (h : doE j what now = 0) : doJ j what now = intoJ j (nextZ j.state what) now := if_pos h
theorem doJ_no (h : doE j what now ≠ 0) : doJ j what now = j := if_neg h
/-- what goes from where to where -/
theorem next_from (h : 0 ≤ nextZ j.state what) : (j.state = 0 ∨ j.state = 1 ∨ j.state = 2) ∧ (nextZ j.state what = 2 → j.state = 0) ∧ (nextZ j.state what ≤ 1 → j.state = 0 ∨ j.state = 1) ∧ (nextZ j.state what = 6 → j.state = 0 ∨ j.state = 1) ∧ (nextZ j.state what = 3 ∨ nextZ j.state what = 4 → j.state = 2) := by
  unfold nextZ at *
  by_cases h0 : j.state = 0
  · rw [if_pos h0] at h ⊢
    refine ⟨.inl h0, fun _ => h0, fun _ => .inl h0, fun _ => .inl h0, ?_⟩
    repeat' split
    all_goals omega
  · rw [if_neg h0] at h ⊢
    by_cases h1 : j.state = 1
    · rw [if_pos h1] at h ⊢
      refine ⟨.inr (.inl h1), ?_, fun _ => .inr h1, fun _ => .inr h1, ?_⟩
      all_goals
        repeat' split
        all_goals omega
    · rw [if_neg h1] at h ⊢
      by_cases h2 : j.state = 2
      · rw [if_pos h2] at h ⊢
        refine ⟨.inr (.inr h2), ?_, ?_, ?_, fun _ => h2⟩
        all_goals
          repeat' split
          all_goals omega
      · rw [if_neg h2] at h; omega
theorem do_right (h : doE j what now = 0) : RightJ (intoJ j (nextZ j.state what) now) := by
  obtain ⟨⟨⟨h1, h2, ⟨h3, h4, h5⟩, h6, h7⟩, h8, h9, h10, h11⟩, hn⟩ := do_ok.1 h
  have hr := next_range j.state what
  have hf := next_from hn
  obtain ⟨s, hs⟩ : ∃ s, nextZ j.state what = s := ⟨_, rfl⟩
  rw [hs] at hr hf hn ⊢
  unfold TimeOk at h4 h5 h9
  have hc := h1.2.2.2
  unfold TimeOk at hc
  unfold FromOk at h6
  unfold ToOk at h7
  refine ⟨h1, h2, ⟨⟨hn, hr.2⟩, ?_, ?_⟩, ?_, ?_⟩
  · show TimeOk (if s = 2 then now else j.frm)
    split
    · exact h9
    · exact h4
  · show TimeOk (if 2 < s then now else j.to)
    split
    · exact h9
    · exact h5
  · show if s = 0 ∨ s = 1 ∨ s = 6 then (if s = 2 then now else j.frm) = 0 else (j.came ≤ (if s = 2 then now else j.frm) ∨ (s = 5 ∧ (if s = 2 then now else j.frm) = 0))
    by_cases e : s = 2
    · rw [if_neg (by omega), if_pos e]
      exact .inl h10
    · rw [if_neg e]
      split at h6
      · split
        · exact h6
        · exact .inr ⟨by omega, h6⟩
      · rename_i hh
        have h22 : j.state = 2 := by omega
        rw [if_neg (by omega)]
        rcases h6 with h6 | h6
        · exact .inl h6
        · omega
  · show if s < 3 then (if 2 < s then now else j.to) = 0 else j.came ≤ (if 2 < s then now else j.to) ∧ (if s = 2 then now else j.frm) ≤ (if 2 < s then now else j.to)
    by_cases e : s < 3
    · rw [if_pos e, if_neg (by omega)]
      split at h7
      · exact h7
      · omega
    · rw [if_neg e, if_pos (by omega), if_neg (by omega)]
      exact ⟨h10, h11⟩
theorem over_no (h : overJ j.state = true) : nextZ j.state what < 0 := by
  have := of_decide_eq_true h
  unfold nextZ
  rw [if_neg (by omega), if_neg (by omega), if_neg (by omega)]
  omega
/-- an end, or not yet: what is cancelled -/
theorem cancel_next (h : RightJ j) : overJ j.state = decide (nextZ j.state 6 < 0) ∧ (¬ nextZ j.state 6 < 0 → nextZ j.state 6 = 5) := by
  have hs := h.2.2.1.1
  have : j.state = 0 ∨ j.state = 1 ∨ j.state = 2 ∨ j.state = 3 ∨ j.state = 4 ∨ j.state = 5 ∨ j.state = 6 := by omega
  rcases this with e | e | e | e | e | e | e
  all_goals
    rw [e]
    decide
end

end Go.Proofs.Ytpaabeadiokgoaa
