/- Plain facts that the statements of layer 11 ask for. Written by gen/gen_joblaws.py. -/
import Derived.Test.YtpaabeadiokgoaaJobFace
namespace Go.Proofs.Ytpaabeadiokgoaa
open Go.RowKit

theorem name_place {s : Int} (h1 : 0 ≤ s) (h2 : s ≤ 6) (W : World) : (Instr.index 33 (.agg #[.string ⟨#[119, 97, 105, 116, 115]⟩, .string ⟨#[104, 111, 108, 100, 115]⟩, .string ⟨#[114, 117, 110, 115]⟩, .string ⟨#[100, 111, 110, 101]⟩, .string ⟨#[101, 110, 100, 101, 100]⟩, .string ⟨#[99, 97, 110, 99, 101, 108, 108, 101, 100]⟩, .string ⟨#[114, 101, 102, 117, 115, 101, 100]⟩]) (.int .i64 s)).run Try.prog W = .ok (.string (nameJ s)) W := by
  have hs : s = 0 ∨ s = 1 ∨ s = 2 ∨ s = 3 ∨ s = 4 ∨ s = 5 ∨ s = 6 := by omega
  rcases hs with rfl | rfl | rfl | rfl | rfl | rfl | rfl
  all_goals rfl
theorem name_out {s : Int} (h : s < 0 ∨ 6 < s) : nameJ s = ⟨#[]⟩ := by
  unfold nameJ
  rw [if_neg (by omega), if_neg (by omega), if_neg (by omega), if_neg (by omega), if_neg (by omega), if_neg (by omega), if_neg (by omega)]
theorem name_in {s : Int} (h1 : 0 ≤ s) (h2 : s ≤ 6) : 0 < (nameJ s).size := by
  have hs : s = 0 ∨ s = 1 ∨ s = 2 ∨ s = 3 ∨ s = 4 ∨ s = 5 ∨ s = 6 := by omega
  rcases hs with rfl | rfl | rfl | rfl | rfl | rfl | rfl
  all_goals decide
theorem name_one {s t : Int} (h1 : 0 ≤ s) (h2 : s ≤ 6) (h : nameJ s = nameJ t) : s = t := by
  have ht : 0 ≤ t ∧ t ≤ 6 := by
    by_cases ht : 0 ≤ t ∧ t ≤ 6
    · exact ht
    · have := name_in h1 h2
      rw [h, name_out (by omega)] at this
      cases this
  have hs : s = 0 ∨ s = 1 ∨ s = 2 ∨ s = 3 ∨ s = 4 ∨ s = 5 ∨ s = 6 := by omega
  have hu : t = 0 ∨ t = 1 ∨ t = 2 ∨ t = 3 ∨ t = 4 ∨ t = 5 ∨ t = 6 := by omega
  rcases hs with rfl | rfl | rfl | rfl | rfl | rfl | rfl
  all_goals
    rcases hu with rfl | rfl | rfl | rfl | rfl | rfl | rfl
    all_goals first | rfl | (revert h; decide)
theorem str_some {s : ByteArray} (h : 0 < s.size) : (s.toList == []) = false ∧ (s.toList != []) = true ∧ ¬ s.toList = [] ∧ s.toList.isEmpty = false := by
  have h1 : ¬ s.toList = [] := by
    intro e
    rw [ByteArray.toList_eq] at e
    have : s.data.size = 0 := by rw [← Array.length_toList, e]; rfl
    have h2 : s.size = s.data.size := rfl
    omega
  refine ⟨by simpa using h1, by simpa using h1, h1, by simpa using h1⟩
theorem str_apart {a b : ByteArray} (h : a ≠ b) : (a.toList == b.toList) = false ∧ (a.toList != b.toList) = true ∧ ¬ a.toList = b.toList := by
  have h1 : ¬ a.toList = b.toList := by
    intro e
    apply h
    rw [ByteArray.toList_eq, ByteArray.toList_eq] at e
    exact ByteArray.ext (Array.ext' e)
  exact ⟨by simpa using h1, by simpa using h1, h1⟩
section
variable {j : Jb} {now : Int}
theorem hold_free (h : doE j 1 now = 0) : doE (doJ j 1 now) 2 now = 0 ∧ doJ (doJ j 1 now) 2 now = j := by
  obtain ⟨hok, hn⟩ := do_ok.1 h
  have h0 : j.state = 0 := by
    rcases (next_from hn).1 with e | e | e
    · exact e
    · unfold nextZ at hn; rw [if_neg (by omega), if_pos e] at hn; omega
    · unfold nextZ at hn; rw [if_neg (by omega), if_neg (by omega), if_pos e] at hn; omega
  have hs : nextZ j.state 1 = 1 := by rw [h0]; rfl
  have hr := do_right h
  rw [doJ_ok h, hs] at *
  have hi : intoJ j 1 now = ⟨j.id, j.spec, j.needs, 1, j.came, j.frm, j.to⟩ := rfl
  rw [hi] at *
  have hok2 : AskOk ⟨j.id, j.spec, j.needs, 1, j.came, j.frm, j.to⟩ 2 now := ⟨hr, ⟨by decide, by decide⟩, hok.2.2.1, hok.2.2.2.1, hok.2.2.2.2⟩
  have e : doE ⟨j.id, j.spec, j.needs, 1, j.came, j.frm, j.to⟩ 2 now = 0 := do_ok.2 ⟨hok2, by show (0 : Int) ≤ nextZ 1 2; decide⟩
  refine ⟨e, (doJ_ok e).trans ?_⟩
  show (⟨j.id, j.spec, j.needs, 0, j.came, j.frm, j.to⟩ : Jb) = j
  rw [← h0]
theorem bad_do {what : Int} (h : ¬ AskOk j what now) : doE j what now = 1 ∧ doJ j what now = j := by
  have h1 : doE j what now = 1 := if_neg h
  exact ⟨h1, doJ_no (by rw [h1]; decide)⟩
theorem do_three (what : Int) : doE j what now = 0 ∨ doE j what now = 1 ∨ doE j what now = 8 := by
  unfold doE
  split
  · split
    · exact .inr (.inr rfl)
    · exact .inl rfl
  · exact .inr (.inl rfl)
theorem cancel_eight (h : doE j 6 now = 8) : overJ j.state = true := by
  unfold doE at h
  split at h
  · rename_i h1
    split at h
    · rename_i h2
      rw [(cancel_next h1.1).1, decide_eq_true h2]
    · omega
  · omega
theorem cancel_does (h : doE j 6 now = 0) : overJ j.state = false ∧ doJ j 6 now = ⟨j.id, j.spec, j.needs, 5, j.came, j.frm, now⟩ := by
  obtain ⟨hok, hn⟩ := do_ok.1 h
  have h2 := cancel_next hok.1
  refine ⟨by rw [h2.1, decide_eq_false (by omega)], ?_⟩
  rw [doJ_ok h, h2.2 (by omega)]; rfl
theorem hold_cancel (h : doE j 1 now = 0) : doE j 6 now = 0 := by
  obtain ⟨hok, hn⟩ := do_ok.1 h
  refine do_ok.2 ⟨⟨hok.1, ⟨by decide, by decide⟩, hok.2.2⟩, ?_⟩
  rcases (next_from hn).1 with e | e | e
  all_goals
    rw [e]
    decide
end

end Go.Proofs.Ytpaabeadiokgoaa
