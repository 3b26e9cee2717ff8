/- More of the kit: the laws of join, meet and less as equations of lists, under the condition that the lists are sets; the calls in the form that the statements' walks use. -/
import Derived.Test.YtgifhbjcelkjkaaDoorSetKit
namespace Go.Proofs.YtgifhbjcelkjkaaDoor
open Go.RowKit Go.Shelf

theorem GlobOk.pos {w : World} (h : GlobOk w) : 0 < w.heap.size := by have := h.size; omega
theorem own_made0 (w : World) (e : TypeId) : (w.alloc (.cells #[] e)).ownsRow w.heap.size e 1 (.slice (some ⟨w.heap.size, 0, none⟩) 0 0) 0 [] :=
  World.ownsRow_made w #[] 0 (Nat.le_refl _) (Nat.zero_le _) rfl

section
variable {a b c : List Int}
theorem join_comm (ha : rightB a = true) (hb : rightB b = true) : joinL a b = joinL b a :=
  right_ext (right_joinL _ _) (right_joinL _ _) fun n => by rw [mem_joinL ha hb, mem_joinL hb ha]; exact Or.comm
theorem meet_comm (ha : rightB a = true) (hb : rightB b = true) : meetL a b = meetL b a :=
  right_ext (right_meetL _ _) (right_meetL _ _) fun n => by rw [mem_meetL ha hb, mem_meetL hb ha]; exact And.comm
theorem join_assoc (ha : rightB a = true) (hb : rightB b = true) (hc : rightB c = true) : joinL a (joinL b c) = joinL (joinL a b) c :=
  right_ext (right_joinL _ _) (right_joinL _ _) fun n => by rw [mem_joinL ha (right_joinL _ _), mem_joinL hb hc, mem_joinL (right_joinL _ _) hc, mem_joinL ha hb]; exact or_assoc.symm
theorem less_join (ha : rightB a = true) (hb : rightB b = true) (hc : rightB c = true) : lessL a (joinL b c) = lessL (lessL a b) c :=
  right_ext (right_lessL _ _) (right_lessL _ _) fun n => by rw [mem_lessL ha (right_joinL _ _), mem_joinL hb hc, mem_lessL (right_lessL _ _) hc, mem_lessL ha hb, not_or, and_assoc]
theorem turn_about (ha : rightB a = true) (hb : rightB b = true) : joinL (lessL a b) (lessL b a) = lessL (joinL a b) (meetL a b) :=
  right_ext (right_joinL _ _) (right_lessL _ _) fun n => by
    rw [mem_joinL (right_lessL _ _) (right_lessL _ _), mem_lessL ha hb, mem_lessL hb ha, mem_lessL (right_joinL _ _) (right_meetL _ _), mem_joinL ha hb, mem_meetL ha hb]
    by_cases h1 : n ∈ a <;> by_cases h2 : n ∈ b <;> simp [h1, h2]
theorem join_back (ha : rightB a = true) (hb : rightB b = true) : joinL (meetL a b) (lessL a b) = a :=
  right_ext (right_joinL _ _) ha fun n => by
    rw [mem_joinL (right_meetL _ _) (right_lessL _ _), mem_meetL ha hb, mem_lessL ha hb]
    by_cases h1 : n ∈ a <;> by_cases h2 : n ∈ b <;> simp [h1, h2]

theorem apart_of (ha : rightB a = true) (hb : rightB b = true) (h : ∀ n, n ∈ a → n ∉ b) : apartB a b = true := by
  unfold apartB
  simp only [ha, hb, Bool.true_and, List.all_eq_true]
  intro n hn
  simpa using h n hn
theorem part_of (ha : rightB a = true) (hb : rightB b = true) (h : ∀ n, n ∈ a → n ∈ b) : partB a b = true := by
  unfold partB
  simp only [ha, hb, Bool.true_and, List.all_eq_true]
  intro n hn
  simpa using h n hn
theorem apart_meet_less (ha : rightB a = true) (hb : rightB b = true) : apartB (meetL a b) (lessL a b) = true :=
  apart_of (right_meetL _ _) (right_lessL _ _) fun n h1 h2 => ((mem_lessL ha hb n).1 h2).2 ((mem_meetL ha hb n).1 h1).2
theorem apart_less (ha : rightB a = true) (hb : rightB b = true) : apartB (lessL a b) b = true :=
  apart_of (right_lessL _ _) hb fun n h1 => ((mem_lessL ha hb n).1 h1).2
theorem part_meet (ha : rightB a = true) (hb : rightB b = true) : partB (meetL a b) b = true :=
  part_of (right_meetL _ _) hb fun n h1 => ((mem_meetL ha hb n).1 h1).2
theorem part_join (ha : rightB a = true) (hc : rightB c = true) : partB a (joinL a c) = true :=
  part_of ha (right_joinL _ _) fun n h1 => (mem_joinL ha hc n).2 (.inl h1)

theorem part_less (ha : rightB a = true) (hb : rightB b = true) : partB a b = decide ((lessL a b).length = 0) := by
  rw [Bool.eq_iff_iff, decide_eq_true_eq, List.length_eq_zero_iff]
  unfold partB
  simp only [ha, hb, Bool.true_and, List.all_eq_true, List.contains_iff_mem]
  constructor
  · intro h
    apply List.eq_nil_iff_forall_not_mem.2
    intro n hn
    have := (mem_lessL ha hb n).1 hn
    exact this.2 (by simpa using h n this.1)
  · intro h n hn
    refine Classical.byContradiction fun hnb => ?_
    have : n ∈ lessL a b := (mem_lessL ha hb n).2 ⟨hn, hnb⟩
    rw [h] at this
    cases this

theorem split_length : ∀ (l : List Int) (p : Int → Bool), l.length = (l.filter p).length + (l.filter fun n => !p n).length
  | [], _ => rfl
  | x :: t, p => by
    have := split_length t p
    cases h : p x <;> simp [h] <;> omega

theorem right_filter : ∀ {l : List Int} (p : Int → Bool), rightB l = true → rightB (l.filter p) = true
  | [], _, h => h
  | x :: t, p, h => by
    have ih := right_filter p (right_tail h)
    simp only [List.filter_cons]
    split
    · exact right_cons (right_head h) ih fun y hy => right_below h y (List.mem_filter.1 hy).1
    · exact ih

theorem meet_less_length (ha : rightB a = true) (hb : rightB b = true) : (meetL a b).length + (lessL a b).length = a.length := by
  have e1 : meetL a b = a.filter fun n => b.contains n := right_ext (right_meetL _ _) (right_filter _ ha) fun n => by rw [mem_meetL ha hb, List.mem_filter]; simp
  have e2 : lessL a b = a.filter fun n => !b.contains n := right_ext (right_lessL _ _) (right_filter _ ha) fun n => by rw [mem_lessL ha hb, List.mem_filter]; simp
  rw [e1, e2]
  exact (split_length a _).symm
end

theorem beq_dec (a b : Nat) : (((a : Int)) == (b : Int)) = decide (a = b) := by
  rw [Bool.eq_iff_iff, beq_iff_eq, decide_eq_true_eq]; omega

section
variable {A A' : Option Addr} {n c n' c' : Nat} {xs ys : List Int} {w : World}
theorem k_join (hr : RI w w.heap.size A n xs) (hr' : RI w w.heap.size A' n' ys) (hn : n ≤ maxLen) (hn' : n' ≤ maxLen) (hG : GlobOk w) :
    Calls Tryd.prog 14 #[.slice A n c, .slice A' n' c'] w (Gives (joinL xs ys) w) := join_ops A A' n c n' c' xs ys w hr hr' hn hn' hG.tz hG.pos
theorem k_meet (hr : RI w w.heap.size A n xs) (hr' : RI w w.heap.size A' n' ys) (hn : n ≤ maxLen) (hn' : n' ≤ maxLen) (hG : GlobOk w) :
    Calls Tryd.prog 15 #[.slice A n c, .slice A' n' c'] w (Gives (meetL xs ys) w) := meet_ops A A' n c n' c' xs ys w hr hr' hn hn' hG.tz hG.pos
theorem k_less (hr : RI w w.heap.size A n xs) (hr' : RI w w.heap.size A' n' ys) (hn : n ≤ maxLen) (hn' : n' ≤ maxLen) (hG : GlobOk w) :
    Calls Tryd.prog 16 #[.slice A n c, .slice A' n' c'] w (Gives (lessL xs ys) w) := less_ops A A' n c n' c' xs ys w hr hr' hn hn' hG.tz hG.pos
theorem k_part {v : Bool} (hr : RI w w.heap.size A n xs) (hr' : RI w w.heap.size A' n' ys) (hn : n ≤ maxLen) (hn' : n' ≤ maxLen) (h : partB xs ys = v) :
    Calls Tryd.prog 19 #[.slice A n c, .slice A' n' c'] w fun e w' => e = .returned (.bool v) ∧ Below w.heap.size w w' := h ▸ part_any A A' n c n' c' xs ys w hr hr' hn hn'
theorem k_apart {v : Bool} (hr : RI w w.heap.size A n xs) (hr' : RI w w.heap.size A' n' ys) (hn : n ≤ maxLen) (hn' : n' ≤ maxLen) (h : apartB xs ys = v) :
    Calls Tryd.prog 20 #[.slice A n c, .slice A' n' c'] w fun e w' => e = .returned (.bool v) ∧ Below w.heap.size w w' := h ▸ apart_any A A' n c n' c' xs ys w hr hr' hn hn'
theorem k_has {x : Int} {v : Bool} (hr : RI w w.heap.size A n xs) (hn : n ≤ maxLen) (h : hasB xs x = v) :
    Calls Tryd.prog 17 #[.slice A n c, .int .i64 x] w fun e w' => e = .returned (.bool v) ∧ Below w.heap.size w w' := h ▸ has_any A n c xs x w hr hn
theorem k_show {s : ByteArray} (hr : RI w w.heap.size A n xs) (hn : n ≤ maxLen) (hnc : n ≤ c) (hG : GlobOk w) (h : ShowB xs = s) :
    Calls Tryd.prog 23 #[.slice A n c] w fun e w' => e = .returned (.string s) ∧ Below w.heap.size w w' := h ▸ show_any A n c xs w hr hn hnc hG.pow
theorem k_parse {s : ByteArray} {l : List Int} {er : Int} (hs : s.size ≤ 8192) (hG : GlobOk w) (h : parseL s.data.toList = (l, er)) :
    Calls Tryd.prog 21 #[.string s] w (ParsePost w.heap.size l er w) := by
  obtain ⟨m, hm⟩ := hG.ml
  have := parse_any s m w hs (by have := hG.size; omega) hm
  rw [h] at this
  exact this
theorem k_refParse {s : ByteArray} {l : List Int} {er : Int} (hs : s.size ≤ 8192) (h : parseL s.data.toList = (l, er)) :
    Calls Tryd.prog 22 #[.string s] w (ParsePost w.heap.size l er w) := by
  have := refParse_any s w hs
  rw [h] at this
  exact this
end

end Go.Proofs.YtgifhbjcelkjkaaDoor
