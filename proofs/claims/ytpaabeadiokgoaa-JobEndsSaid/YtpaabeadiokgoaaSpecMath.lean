/- What a job asks for, in plain words. No program's text is walked here. -/
import Derived.Test.YtpaabeadiokgoaaGraphMath
import Derived.Test.YtpaabeadiokgoaaWhenRef
namespace Go.Proofs.Ytpaabeadiokgoaa

/-- a spec -/
structure Sp where
  nodes : Int
  cores : Int
  gpus : Int
  tag : ByteArray
  whole : Bool
  long : Int
  prio : Int
def sp0 : Sp := ⟨0, 0, 0, ⟨#[]⟩, false, 0, 0⟩
def rightS (s : Sp) : Bool :=
  tagB s.tag && decide ((1 ≤ s.nodes ∧ s.nodes ≤ 64) ∧ (0 ≤ s.cores ∧ s.cores ≤ 64) ∧ (0 ≤ s.gpus ∧ s.gpus ≤ 64) ∧ ¬ (s.cores = 0 ∧ s.gpus = 0 ∧ s.whole = false) ∧ (1 ≤ s.long ∧ s.long ≤ 1099511627776) ∧ (-1000 ≤ s.prio ∧ s.prio ≤ 1000))
/-- how many cores and gpus in all -/
def sizeS (s : Sp) : Int := s.nodes * s.cores + s.nodes * s.gpus
def endsS (s : Sp) (a : Int) : Int := plusZ a (if rightS s = true then s.long else 0)
def aheadS (a b : Sp) : Bool := rightS a && (rightS b && (if a.prio ≠ b.prio then decide (b.prio < a.prio) else if sizeS a ≠ sizeS b then decide (sizeS a < sizeS b) else decide (a.long < b.long)))
def partS (s : Sp) (n : Int) : Sp × Int := if rightS s = false ∨ n < 0 then (sp0, 1) else if s.nodes ≤ n then (sp0, 6) else ({ s with nodes := s.nodes - n }, 0)
def asksS (s : Sp) : Int × Int × Int := if rightS s = true then (s.nodes, s.nodes * s.cores, s.nodes * s.gpus) else (0, 0, 0)

theorem rightS_is {s : Sp} (h : rightS s = true) : tagB s.tag = true ∧ (1 ≤ s.nodes ∧ s.nodes ≤ 64) ∧ (0 ≤ s.cores ∧ s.cores ≤ 64) ∧ (0 ≤ s.gpus ∧ s.gpus ≤ 64) ∧ ¬ (s.cores = 0 ∧ s.gpus = 0 ∧ s.whole = false) ∧ (1 ≤ s.long ∧ s.long ≤ 1099511627776) ∧ (-1000 ≤ s.prio ∧ s.prio ≤ 1000) := by
  unfold rightS at h
  rwa [Bool.and_eq_true, decide_eq_true_eq] at h
theorem rightS_no {s : Sp} (h : ¬ (tagB s.tag = true ∧ (1 ≤ s.nodes ∧ s.nodes ≤ 64) ∧ (0 ≤ s.cores ∧ s.cores ≤ 64) ∧ (0 ≤ s.gpus ∧ s.gpus ≤ 64) ∧ ¬ (s.cores = 0 ∧ s.gpus = 0 ∧ s.whole = false) ∧ (1 ≤ s.long ∧ s.long ≤ 1099511627776) ∧ (-1000 ≤ s.prio ∧ s.prio ≤ 1000))) : rightS s = false := by
  cases hr : rightS s with
  | false => rfl
  | true => exact absurd (rightS_is hr) h
theorem rightS_mk {s : Sp} (h : tagB s.tag = true ∧ (1 ≤ s.nodes ∧ s.nodes ≤ 64) ∧ (0 ≤ s.cores ∧ s.cores ≤ 64) ∧ (0 ≤ s.gpus ∧ s.gpus ≤ 64) ∧ ¬ (s.cores = 0 ∧ s.gpus = 0 ∧ s.whole = false) ∧ (1 ≤ s.long ∧ s.long ≤ 1099511627776) ∧ (-1000 ≤ s.prio ∧ s.prio ≤ 1000)) : rightS s = true := by
  unfold rightS
  rwa [Bool.and_eq_true, decide_eq_true_eq]
theorem mul_bounds {x y : Int} (h1 : 0 ≤ x) (h2 : x ≤ 64) (h3 : 0 ≤ y) (h4 : y ≤ 64) : 0 ≤ x * y ∧ x * y ≤ 4096 := by
  refine ⟨Int.mul_nonneg h1 h3, ?_⟩
  have := Int.mul_le_mul h2 h4 h3 (by omega)
  omega
theorem sizeS_bounds {s : Sp} (h : rightS s = true) : 0 ≤ sizeS s ∧ sizeS s ≤ 8192 := by
  obtain ⟨_, h1, h2, h3, _⟩ := rightS_is h
  have a := mul_bounds (by omega) h1.2 h2.1 h2.2
  have b := mul_bounds (x := s.nodes) (by omega) h1.2 h3.1 h3.2
  unfold sizeS
  omega
theorem aheadS_iff {a b : Sp} : aheadS a b = true ↔ rightS a = true ∧ rightS b = true ∧ (b.prio < a.prio ∨ (a.prio = b.prio ∧ (sizeS a < sizeS b ∨ (sizeS a = sizeS b ∧ a.long < b.long)))) := by
  unfold aheadS
  rw [Bool.and_eq_true, Bool.and_eq_true]
  refine and_congr_right fun _ => and_congr_right fun _ => ?_
  split
  · rw [decide_eq_true_eq]; omega
  · split
    · rw [decide_eq_true_eq]; omega
    · rw [decide_eq_true_eq]; omega
theorem ahead_self (a : Sp) : aheadS a a = false := by
  rw [← Bool.not_eq_true, aheadS_iff]; omega
theorem ahead_both (a b : Sp) : ¬ (aheadS a b = true ∧ aheadS b a = true) := by
  rw [aheadS_iff, aheadS_iff]; omega
theorem ahead_on {a b c : Sp} (h1 : aheadS a b = true) (h2 : aheadS b c = true) : aheadS a c = true := by
  rw [aheadS_iff] at *
  obtain ⟨r1, _, h1⟩ := h1
  obtain ⟨_, r3, h2⟩ := h2
  exact ⟨r1, r3, by omega⟩
theorem ahead_alike {a b c : Sp} (ha : rightS a = true) (hb : rightS b = true) (hc : rightS c = true) (h1 : aheadS a b = false) (h2 : aheadS b a = false) (h3 : aheadS b c = false) (h4 : aheadS c b = false) : aheadS a c = false ∧ aheadS c a = false := by
  rw [← Bool.not_eq_true, aheadS_iff] at *
  rw [← Bool.not_eq_true, aheadS_iff]
  simp only [ha, hb, hc, true_and] at *
  omega
theorem ahead_round {a b c : Sp} (h : ¬ (rightS a = true ∧ rightS b = true ∧ rightS c = true)) : ¬ (aheadS a b = true ∧ aheadS b c = true ∧ aheadS c a = true) := by
  rw [aheadS_iff, aheadS_iff, aheadS_iff]
  rintro ⟨⟨h1, h2, _⟩, ⟨_, h3, _⟩, _⟩
  exact h ⟨h1, h2, h3⟩
theorem plus_rise {x y l : Int} (h : x ≤ y) : plusZ x l ≤ plusZ y l := by unfold plusZ nearZ; repeat' split; all_goals omega
theorem plus_near {x l : Int} (h0 : 0 ≤ x) (h1 : x ≤ 4294967295) (hl : 0 ≤ l) (hl2 : l ≤ 1099511627776) : plusZ x l = x + l := by unfold plusZ nearZ; repeat' split; all_goals omega
theorem plus_never {l : Int} (hl : 0 ≤ l) : plusZ 4611686018427387904 l = 4611686018427387904 := by unfold plusZ nearZ; repeat' split; all_goals omega
theorem partS_ok {s : Sp} {n : Int} (hr : rightS s = true) (hn : 0 ≤ n) : partS s n = if s.nodes ≤ n then (sp0, 6) else ({ s with nodes := s.nodes - n }, 0) := by
  unfold partS
  rw [if_neg]
  rintro (h | h)
  · rw [hr] at h; cases h
  · omega
/-- a part of a part is one part -/
theorem part_part {s a : Sp} {x y : Int} (hx : 0 ≤ x) (hy : 0 ≤ y) (h : partS s x = (a, 0)) : rightS a = true ∧ a.nodes = s.nodes - x ∧ a.cores = s.cores ∧ a.gpus = s.gpus ∧ rightS s = true ∧ partS a y = partS s (x + y) := by
  unfold partS at h
  split at h
  · injection h with _ h2; cases h2
  · rename_i h0
    split at h
    · injection h with _ h2; cases h2
    · rename_i h1
      injection h with h2
      subst h2
      have hr : rightS s = true := by
        cases hr : rightS s with
        | true => rfl
        | false => exact absurd (.inl hr) h0
      have hs := rightS_is hr
      have hr' : rightS { s with nodes := s.nodes - x } = true := rightS_mk ⟨hs.1, ⟨by show 1 ≤ s.nodes - x; omega, by show s.nodes - x ≤ 64; omega⟩, hs.2.2⟩
      refine ⟨hr', rfl, rfl, rfl, hr, ?_⟩
      rw [partS_ok hr' hy, partS_ok hr (by omega)]
      by_cases hlt : s.nodes ≤ x + y
      · rw [if_pos (by show s.nodes - x ≤ y; omega), if_pos hlt]
      · rw [if_neg (by show ¬ s.nodes - x ≤ y; omega), if_neg hlt]
        show (({ s with nodes := s.nodes - x - y } : Sp), (0 : Int)) = ({ s with nodes := s.nodes - (x + y) }, 0)
        rw [show s.nodes - x - y = s.nodes - (x + y) by omega]

end Go.Proofs.Ytpaabeadiokgoaa
