/- What the program's functions of layer 12 (queue) answer, as one list of contracts: the statements' walks lean on it alone. Written by gen/gen_queuelaws.py. What the program's functions of layer 11 (job) answer, as one list of contracts: the statements' walks lean on it alone. Written by gen/gen_joblaws.py. Plain facts that the statements of layer 11 ask for. Written by gen/gen_joblaws.py. -/
import Derived.Test.YtimgdlddfnglaaaMg06
namespace Go.Proofs.Ytimgdlddfnglaaa
open Go.RowKit

/-- numbers that are handed in -/
structure MAsk (w : World) (A : Option Addr) (m c : Nat) (ns : List Int) : Prop where
  reads : RI w w.heap.size A m ns
  nil : A = none → c = 0
  cap : m ≤ c
  few : m ≤ maxLen
  int : ∀ x ∈ ns, I64 x
theorem MAsk.next {w w' : World} {A : Option Addr} {m c : Nat} {ns : List Int} (h : MAsk w A m c ns) (hb : Below w.heap.size w w') : MAsk w' A m c ns := ⟨h.reads.next hb, h.nil, h.cap, h.few, h.int⟩
theorem mask_nil (w : World) : MAsk w none 0 0 [] := ⟨RI.nil, fun _ => rfl, Nat.le_refl _, Nat.zero_le _, fun _ h => by cases h⟩
def GetQ (l : Qu) (id : Int) : Prop := RightQ l ∧ HasQ l id
instance (l : Qu) (id : Int) : Decidable (GetQ l id) := by unfold GetQ; infer_instance
def getQ (l : Qu) (id : Int) : Jb := if GetQ l id then jOf l id else jb0

structure QueueOk : Prop where
  right : ∀ (A : Option Addr) (n c : Nat) (l : Qu) (w : World), QAsk w A n c l → FewQ l → Calls Try.prog 16 #[.slice A n c] w (fun e w' => e = .returned (.bool (rightQ l)) ∧ Below w.heap.size w w')
  add : ∀ (A : Option Addr) (n c : Nat) (l : Qu) (s : Sp) (A2 : Option Addr) (m c2 : Nat) (ns : List Int) (now : Int) (w : World), QAsk w A n c l → FewQ l → SAsk s → MAsk w A2 m c2 ns → m ≤ 100 → I64 now → Calls Try.prog 18 #[.slice A n c, .agg #[.int .i64 s.nodes, .int .i64 s.cores, .int .i64 s.gpus, .string s.tag, .bool s.whole, .int .i64 s.long, .int .i64 s.prio], .slice A2 m c2, .int .i64 now] w (QNPost (addQL l s ns now) (addN l s ns now) (addQE l s ns now) w)
  does : ∀ (A : Option Addr) (n c : Nat) (l : Qu) (id what now : Int) (w : World), QAsk w A n c l → RightQ l → HasQ l id → I64 id → I64 what → I64 now → Calls Try.prog 19 #[.slice A n c, .int .i64 id, .int .i64 what, .int .i64 now] w (QEPost (doQ l id what now) (doQE l id what now) w)
  get : ∀ (A : Option Addr) (n c : Nat) (l : Qu) (id : Int) (w : World), QAsk w A n c l → FewQ l → I64 id → Calls Try.prog 17 #[.slice A n c, .int .i64 id] w (JBPost (getQ l id) (decide (GetQ l id)) w)
  ready : ∀ (A : Option Addr) (n c : Nat) (l : Qu) (w : World), QAsk w A n c l → FewQ l → Calls Try.prog 11 #[.slice A n c] w (IPost (readyQ l) w)
  lost : ∀ (A : Option Addr) (n c : Nat) (l : Qu) (w : World), QAsk w A n c l → FewQ l → Calls Try.prog 13 #[.slice A n c] w (IPost (lostQ l) w)
  counts : ∀ (A : Option Addr) (n c : Nat) (l : Qu) (w : World), QAsk w A n c l → FewQ l → Calls Try.prog 15 #[.slice A n c] w (fun e w' => e = .returned (.agg #[.int .i64 (countsQ l 0), .int .i64 (countsQ l 1), .int .i64 (countsQ l 2), .int .i64 (countsQ l 3), .int .i64 (countsQ l 4), .int .i64 (countsQ l 5), .int .i64 (countsQ l 6)]) ∧ Below w.heap.size w w')

section
variable (H : QueueOk) {A : Option Addr} {n c : Nat} {l : Qu} {w : World}
include H
theorem h12_right (hl : QAsk w A n c l) (hf : FewQ l) {v : Bool} (e : rightQ l = v) : Calls Try.prog 16 #[.slice A n c] w fun e w' => e = .returned (.bool v) ∧ Below w.heap.size w w' := by
  subst e; exact H.right A n c l w hl hf
theorem h12_add (hl : QAsk w A n c l) (hf : FewQ l) {s : Sp} (hs : SAsk s) {A2 : Option Addr} {m c2 : Nat} {ns : List Int} (hm : MAsk w A2 m c2 ns) (hmm : m ≤ 100) {now : Int} (hn : I64 now) {r : Qu} {k er : Int} (e1 : addQL l s ns now = r) (e2 : addN l s ns now = k) (e3 : addQE l s ns now = er) : Calls Try.prog 18 #[.slice A n c, .agg #[.int .i64 s.nodes, .int .i64 s.cores, .int .i64 s.gpus, .string s.tag, .bool s.whole, .int .i64 s.long, .int .i64 s.prio], .slice A2 m c2, .int .i64 now] w (QNPost r k er w) := by
  subst e1 e2 e3; exact H.add A n c l s A2 m c2 ns now w hl hf hs hm hmm hn
theorem h12_do (hl : QAsk w A n c l) (hr : RightQ l) {id what now : Int} (hh : HasQ l id) (hi : I64 id) (hw : I64 what) (hn : I64 now) {r : Qu} {er : Int} (e1 : doQ l id what now = r) (e2 : doQE l id what now = er) : Calls Try.prog 19 #[.slice A n c, .int .i64 id, .int .i64 what, .int .i64 now] w (QEPost r er w) := by
  subst e1 e2; exact H.does A n c l id what now w hl hr hh hi hw hn
theorem h12_get (hl : QAsk w A n c l) (hf : FewQ l) {id : Int} (hi : I64 id) {j : Jb} {v : Bool} (e1 : getQ l id = j) (e2 : decide (GetQ l id) = v) : Calls Try.prog 17 #[.slice A n c, .int .i64 id] w (JBPost j v w) := by
  subst e1 e2; exact H.get A n c l id w hl hf hi
theorem h12_ready (hl : QAsk w A n c l) (hf : FewQ l) {r : List Int} (e : readyQ l = r) : Calls Try.prog 11 #[.slice A n c] w (IPost r w) := by
  subst e; exact H.ready A n c l w hl hf
theorem h12_lost (hl : QAsk w A n c l) (hf : FewQ l) {r : List Int} (e : lostQ l = r) : Calls Try.prog 13 #[.slice A n c] w (IPost r w) := by
  subst e; exact H.lost A n c l w hl hf
theorem h12_counts (hl : QAsk w A n c l) (hf : FewQ l) {k : Int → Int} (e : countsQ l = k) : Calls Try.prog 15 #[.slice A n c] w fun e w' => e = .returned (.agg #[.int .i64 (k 0), .int .i64 (k 1), .int .i64 (k 2), .int .i64 (k 3), .int .i64 (k 4), .int .i64 (k 5), .int .i64 (k 6)]) ∧ Below w.heap.size w w' := by
  subst e; exact H.counts A n c l w hl hf
end

end Go.Proofs.Ytimgdlddfnglaaa

namespace Go.Proofs.Ytimgdlddfnglaaa
open Go.RowKit

structure JobOk : Prop where
  right : ∀ (A : Option Addr) (m c : Nat) (j : Jb) (w : World), JAsk w A m c j → m ≤ 100 → Calls Try.prog 32 #[.agg #[.int .i64 j.id, .int .i64 j.spec.nodes, .int .i64 j.spec.cores, .int .i64 j.spec.gpus, .string j.spec.tag, .bool j.spec.whole, .int .i64 j.spec.long, .int .i64 j.spec.prio, .slice A m c, .int .i64 j.state, .int .i64 j.came, .int .i64 j.frm, .int .i64 j.to]] w (fun e w' => e = .returned (.bool (rightJ j)) ∧ Below w.heap.size w w')
  does : ∀ (A : Option Addr) (m c : Nat) (j : Jb) (what now : Int) (w : World), JAsk w A m c j → m ≤ 100 → I64 what → I64 now → Calls Try.prog 42 #[.agg #[.int .i64 j.id, .int .i64 j.spec.nodes, .int .i64 j.spec.cores, .int .i64 j.spec.gpus, .string j.spec.tag, .bool j.spec.whole, .int .i64 j.spec.long, .int .i64 j.spec.prio, .slice A m c, .int .i64 j.state, .int .i64 j.came, .int .i64 j.frm, .int .i64 j.to], .int .i64 what, .int .i64 now] w (JPost (doJ j what now) (doE j what now) w)
  over : ∀ (s : Int) (w : World), I64 s → Calls Try.prog 20 #[.int .i64 s] w (fun e w' => e = .returned (.bool (overJ s)) ∧ Below w.heap.size w w')

section
variable (H : JobOk) {A : Option Addr} {m c : Nat} {j : Jb} {w : World}
include H
theorem h11_right (hj : JAsk w A m c j) (hm : m ≤ 100) {v : Bool} (e : rightJ j = v) : Calls Try.prog 32 #[.agg #[.int .i64 j.id, .int .i64 j.spec.nodes, .int .i64 j.spec.cores, .int .i64 j.spec.gpus, .string j.spec.tag, .bool j.spec.whole, .int .i64 j.spec.long, .int .i64 j.spec.prio, .slice A m c, .int .i64 j.state, .int .i64 j.came, .int .i64 j.frm, .int .i64 j.to]] w fun e w' => e = .returned (.bool v) ∧ Below w.heap.size w w' := by
  subst e; exact H.right A m c j w hj hm
theorem h11_do (hj : JAsk w A m c j) (hm : m ≤ 100) {what now : Int} (hw : I64 what) (hn : I64 now) {j' : Jb} {er : Int} (e1 : doJ j what now = j') (e2 : doE j what now = er) : Calls Try.prog 42 #[.agg #[.int .i64 j.id, .int .i64 j.spec.nodes, .int .i64 j.spec.cores, .int .i64 j.spec.gpus, .string j.spec.tag, .bool j.spec.whole, .int .i64 j.spec.long, .int .i64 j.spec.prio, .slice A m c, .int .i64 j.state, .int .i64 j.came, .int .i64 j.frm, .int .i64 j.to], .int .i64 what, .int .i64 now] w (JPost j' er w) := by
  subst e1 e2; exact H.does A m c j what now w hj hm hw hn
theorem h11_over {s : Int} (hs : I64 s) {v : Bool} (e : overJ s = v) : Calls Try.prog 20 #[.int .i64 s] w fun e w' => e = .returned (.bool v) ∧ Below w.heap.size w w' := by
  subst e; exact H.over s w hs
end

end Go.Proofs.Ytimgdlddfnglaaa

namespace Go.Proofs.Ytimgdlddfnglaaa
open Go.RowKit

theorem name_out {s : Int} (h : s < 0 ∨ 6 < s) : nameJ s = ⟨#[]⟩ := by
  unfold nameJ
  rw [if_neg (by omega), if_neg (by omega), if_neg (by omega), if_neg (by omega), if_neg (by omega), if_neg (by omega), if_neg (by omega)]
theorem name_in {s : Int} (h1 : 0 ≤ s) (h2 : s ≤ 6) : 0 < (nameJ s).size := by
  have hs : s = 0 ∨ s = 1 ∨ s = 2 ∨ s = 3 ∨ s = 4 ∨ s = 5 ∨ s = 6 := by omega
  rcases hs with rfl | rfl | rfl | rfl | rfl | rfl | rfl
  all_goals decide
theorem name_one {s t : Int} (h1 : 0 ≤ s) (h2 : s ≤ 6) (h : nameJ s = nameJ t) : s = t := by
  have ht : 0 ≤ t ∧ t ≤ 6 := by
    by_cases ht : 0 ≤ t ∧ t ≤ 6
    · exact ht
    · have := name_in h1 h2
      rw [h, name_out (by omega)] at this
      cases this
  have hs : s = 0 ∨ s = 1 ∨ s = 2 ∨ s = 3 ∨ s = 4 ∨ s = 5 ∨ s = 6 := by omega
  have hu : t = 0 ∨ t = 1 ∨ t = 2 ∨ t = 3 ∨ t = 4 ∨ t = 5 ∨ t = 6 := by omega
  rcases hs with rfl | rfl | rfl | rfl | rfl | rfl | rfl
  all_goals
    rcases hu with rfl | rfl | rfl | rfl | rfl | rfl | rfl
    all_goals first | rfl | (revert h; decide)
theorem str_some {s : ByteArray} (h : 0 < s.size) : (s.toList == []) = false ∧ (s.toList != []) = true ∧ ¬ s.toList = [] ∧ s.toList.isEmpty = false := by
  have h1 : ¬ s.toList = [] := by
    intro e
    rw [ByteArray.toList_eq] at e
    have : s.data.size = 0 := by rw [← Array.length_toList, e]; rfl
    have h2 : s.size = s.data.size := rfl
    omega
  refine ⟨by simpa using h1, by simpa using h1, h1, by simpa using h1⟩
theorem str_apart {a b : ByteArray} (h : a ≠ b) : (a.toList == b.toList) = false ∧ (a.toList != b.toList) = true ∧ ¬ a.toList = b.toList := by
  have h1 : ¬ a.toList = b.toList := by
    intro e
    apply h
    rw [ByteArray.toList_eq, ByteArray.toList_eq] at e
    exact ByteArray.ext (Array.ext' e)
  exact ⟨by simpa using h1, by simpa using h1, h1⟩
section
variable {j : Jb} {now : Int}
theorem hold_free (h : doE j 1 now = 0) : doE (doJ j 1 now) 2 now = 0 ∧ doJ (doJ j 1 now) 2 now = j := by
  obtain ⟨hok, hn⟩ := do_ok.1 h
  have h0 : j.state = 0 := by
    rcases (next_from hn).1 with e | e | e
    · exact e
    · unfold nextZ at hn; rw [if_neg (by omega), if_pos e] at hn; omega
    · unfold nextZ at hn; rw [if_neg (by omega), if_neg (by omega), if_pos e] at hn; omega
  have hs : nextZ j.state 1 = 1 := by rw [h0]; rfl
  have hr := do_right h
  rw [doJ_ok h, hs] at *
  have hi : intoJ j 1 now = ⟨j.id, j.spec, j.needs, 1, j.came, j.frm, j.to⟩ := rfl
  rw [hi] at *
  have hok2 : AskOk ⟨j.id, j.spec, j.needs, 1, j.came, j.frm, j.to⟩ 2 now := ⟨hr, ⟨by decide, by decide⟩, hok.2.2.1, hok.2.2.2.1, hok.2.2.2.2⟩
  have e : doE ⟨j.id, j.spec, j.needs, 1, j.came, j.frm, j.to⟩ 2 now = 0 := do_ok.2 ⟨hok2, by show (0 : Int) ≤ nextZ 1 2; decide⟩
  refine ⟨e, (doJ_ok e).trans ?_⟩
  show (⟨j.id, j.spec, j.needs, 0, j.came, j.frm, j.to⟩ : Jb) = j
  rw [← h0]
theorem bad_do {what : Int} (h : ¬ AskOk j what now) : doE j what now = 1 ∧ doJ j what now = j := by
  have h1 : doE j what now = 1 := if_neg h
  exact ⟨h1, doJ_no (by rw [h1]; decide)⟩
theorem do_three (what : Int) : doE j what now = 0 ∨ doE j what now = 1 ∨ doE j what now = 8 := by
  unfold doE
  split
  · split
    · exact .inr (.inr rfl)
    · exact .inl rfl
  · exact .inr (.inl rfl)
theorem cancel_eight (h : doE j 6 now = 8) : overJ j.state = true := by
  unfold doE at h
  split at h
  · rename_i h1
    split at h
    · rename_i h2
      rw [(cancel_next h1.1).1, decide_eq_true h2]
    · omega
  · omega
theorem cancel_does (h : doE j 6 now = 0) : overJ j.state = false ∧ doJ j 6 now = ⟨j.id, j.spec, j.needs, 5, j.came, j.frm, now⟩ := by
  obtain ⟨hok, hn⟩ := do_ok.1 h
  have h2 := cancel_next hok.1
  refine ⟨by rw [h2.1, decide_eq_false (by omega)], ?_⟩
  rw [doJ_ok h, h2.2 (by omega)]; rfl
theorem hold_cancel (h : doE j 1 now = 0) : doE j 6 now = 0 := by
  obtain ⟨hok, hn⟩ := do_ok.1 h
  refine do_ok.2 ⟨⟨hok.1, ⟨by decide, by decide⟩, hok.2.2⟩, ?_⟩
  rcases (next_from hn).1 with e | e | e
  all_goals
    rw [e]
    decide
end

end Go.Proofs.Ytimgdlddfnglaaa
