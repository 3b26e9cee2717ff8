/- What a job is, and what becomes of it by what happens to it, in plain words. No program's text is walked here. What is taken of the library's tables, where a seat's code reaches them: nothing, or that they lie as Go's text lays them. The reference's Same of two lists of numbers (bailiwickref01). What the small readers of a slice of int answer: set.Right, the reference's Right, in and Same; the slices read as lists of numbers. -/
import Derived.Test.YtimgdlddfnglaaaMg03
import Derived.Test.YtimgdlddfnglaaaMg01
import Derived.LoopTactic
import Derived.Deep.QuietTactic
import Derived.BigQuiet
import Derived.Test.YtimgdlddfnglaaaMg02
namespace Go.Proofs.Ytimgdlddfnglaaa

/-- a job -/
structure Jb where
  id : Int
  spec : Sp
  needs : List Int
  state : Int
  came : Int
  frm : Int
  to : Int
def jb0 : Jb := ⟨0, sp0, [], 0, 0, 0, 0⟩
def TimeOk (t : Int) : Prop := 0 ≤ t ∧ t ≤ 4611686018427387904
instance (t : Int) : Decidable (TimeOk t) := by unfold TimeOk; infer_instance
/-- the need at a place is a number from 1 on, less than the job's, greater than the one ahead -/
def NeedAt (id : Int) (l : List Int) (i : Nat) : Prop := 1 ≤ l.getD i 0 ∧ l.getD i 0 < id ∧ (0 < i → l.getD (i - 1) 0 < l.getD i 0)
instance (id : Int) (l : List Int) (i : Nat) : Decidable (NeedAt id l i) := by unfold NeedAt; infer_instance
def FromOk (j : Jb) : Prop := if j.state = 0 ∨ j.state = 1 ∨ j.state = 6 then j.frm = 0 else (j.came ≤ j.frm ∨ (j.state = 5 ∧ j.frm = 0))
instance (j : Jb) : Decidable (FromOk j) := by unfold FromOk; infer_instance
def ToOk (j : Jb) : Prop := if j.state < 3 then j.to = 0 else j.came ≤ j.to ∧ j.frm ≤ j.to
instance (j : Jb) : Decidable (ToOk j) := by unfold ToOk; infer_instance
def HeadOk (j : Jb) : Prop := (1 ≤ j.id ∧ j.id ≤ 1073741824) ∧ rightS j.spec = true ∧ j.needs.length ≤ 16 ∧ TimeOk j.came
instance (j : Jb) : Decidable (HeadOk j) := by unfold HeadOk; infer_instance
def NeedsOk (j : Jb) : Prop := ∀ i, i < j.needs.length → NeedAt j.id j.needs i
instance (j : Jb) : Decidable (NeedsOk j) := by unfold NeedsOk; infer_instance
def StateOk (j : Jb) : Prop := (0 ≤ j.state ∧ j.state ≤ 6) ∧ TimeOk j.frm ∧ TimeOk j.to
instance (j : Jb) : Decidable (StateOk j) := by unfold StateOk; infer_instance
def RightJ (j : Jb) : Prop := HeadOk j ∧ NeedsOk j ∧ StateOk j ∧ FromOk j ∧ ToOk j
instance (j : Jb) : Decidable (RightJ j) := by unfold RightJ; infer_instance
def rightJ (j : Jb) : Bool := decide (RightJ j)
/-- the state behind it; -1: it doesn't happen -/
def nextZ (state what : Int) : Int :=
  if state = 0 then (if what = 1 then 1 else if what = 3 then 2 else if what = 6 then 5 else if what = 7 then 6 else -1)
  else if state = 1 then (if what = 2 then 0 else if what = 6 then 5 else if what = 7 then 6 else -1)
  else if state = 2 then (if what = 4 then 3 else if what = 5 then 4 else if what = 6 then 5 else -1)
  else -1
def AskOk (j : Jb) (what now : Int) : Prop := RightJ j ∧ (1 ≤ what ∧ what ≤ 7) ∧ TimeOk now ∧ j.came ≤ now ∧ j.frm ≤ now
instance (j : Jb) (what now : Int) : Decidable (AskOk j what now) := by unfold AskOk; infer_instance
def doE (j : Jb) (what now : Int) : Int := if AskOk j what now then (if nextZ j.state what < 0 then 8 else 0) else 1
/-- the job in the state s -/
def intoJ (j : Jb) (s now : Int) : Jb := { j with state := s, frm := if s = 2 then now else j.frm, to := if 2 < s then now else j.to }
def doJ (j : Jb) (what now : Int) : Jb := if doE j what now = 0 then intoJ j (nextZ j.state what) now else j
def overJ (s : Int) : Bool := decide (3 ≤ s ∧ s ≤ 6)
def nameJ (s : Int) : ByteArray :=
  if s = 0 then ⟨#[119, 97, 105, 116, 115]⟩ else if s = 1 then ⟨#[104, 111, 108, 100, 115]⟩ else if s = 2 then ⟨#[114, 117, 110, 115]⟩ else if s = 3 then ⟨#[100, 111, 110, 101]⟩
  else if s = 4 then ⟨#[101, 110, 100, 101, 100]⟩ else if s = 5 then ⟨#[99, 97, 110, 99, 101, 108, 108, 101, 100]⟩ else if s = 6 then ⟨#[114, 101, 102, 117, 115, 101, 100]⟩ else ⟨#[]⟩

section
variable {j : Jb} {what now s : Int}
theorem next_range (state what : Int) : -1 ≤ nextZ state what ∧ nextZ state what ≤ 6 := by
  unfold nextZ
  repeat' split
  all_goals omega
theorem do_ok : doE j what now = 0 ↔ AskOk j what now ∧ 0 ≤ nextZ j.state what := by
  unfold doE
  constructor
  · intro h
    split at h
    · rename_i h1
      split at h
      · omega
      · exact ⟨h1, by omega⟩
    · omega
  · rintro ⟨h1, h2⟩
    rw [if_pos h1, if_neg (by omega)]
theorem doJ_ok (h : doE j what now = 0) : doJ j what now = intoJ j (nextZ j.state what) now := if_pos h
theorem doJ_no (h : doE j what now ≠ 0) : doJ j what now = j := if_neg h
/-- what goes from where to where -/
theorem next_from (h : 0 ≤ nextZ j.state what) : (j.state = 0 ∨ j.state = 1 ∨ j.state = 2) ∧ (nextZ j.state what = 2 → j.state = 0) ∧ (nextZ j.state what ≤ 1 → j.state = 0 ∨ j.state = 1) ∧ (nextZ j.state what = 6 → j.state = 0 ∨ j.state = 1) ∧ (nextZ j.state what = 3 ∨ nextZ j.state what = 4 → j.state = 2) := by
  unfold nextZ at *
  by_cases h0 : j.state = 0
  · rw [if_pos h0] at h ⊢
    refine ⟨.inl h0, fun _ => h0, fun _ => .inl h0, fun _ => .inl h0, ?_⟩
    repeat' split
    all_goals omega
  · rw [if_neg h0] at h ⊢
    by_cases h1 : j.state = 1
    · rw [if_pos h1] at h ⊢
      refine ⟨.inr (.inl h1), ?_, fun _ => .inr h1, fun _ => .inr h1, ?_⟩
      all_goals
        repeat' split
        all_goals omega
    · rw [if_neg h1] at h ⊢
      by_cases h2 : j.state = 2
      · rw [if_pos h2] at h ⊢
        refine ⟨.inr (.inr h2), ?_, ?_, ?_, fun _ => h2⟩
        all_goals
          repeat' split
          all_goals omega
      · rw [if_neg h2] at h; omega
theorem do_right (h : doE j what now = 0) : RightJ (intoJ j (nextZ j.state what) now) := by
  obtain ⟨⟨⟨h1, h2, ⟨h3, h4, h5⟩, h6, h7⟩, h8, h9, h10, h11⟩, hn⟩ := do_ok.1 h
  have hr := next_range j.state what
  have hf := next_from hn
  obtain ⟨s, hs⟩ : ∃ s, nextZ j.state what = s := ⟨_, rfl⟩
  rw [hs] at hr hf hn ⊢
  unfold TimeOk at h4 h5 h9
  have hc := h1.2.2.2
  unfold TimeOk at hc
  unfold FromOk at h6
  unfold ToOk at h7
  refine ⟨h1, h2, ⟨⟨hn, hr.2⟩, ?_, ?_⟩, ?_, ?_⟩
  · show TimeOk (if s = 2 then now else j.frm)
    split
    · exact h9
    · exact h4
  · show TimeOk (if 2 < s then now else j.to)
    split
    · exact h9
    · exact h5
  · show if s = 0 ∨ s = 1 ∨ s = 6 then (if s = 2 then now else j.frm) = 0 else (j.came ≤ (if s = 2 then now else j.frm) ∨ (s = 5 ∧ (if s = 2 then now else j.frm) = 0))
    by_cases e : s = 2
    · rw [if_neg (by omega), if_pos e]
      exact .inl h10
    · rw [if_neg e]
      split at h6
      · split
        · exact h6
        · exact .inr ⟨by omega, h6⟩
      · rename_i hh
        have h22 : j.state = 2 := by omega
        rw [if_neg (by omega)]
        rcases h6 with h6 | h6
        · exact .inl h6
        · omega
  · show if s < 3 then (if 2 < s then now else j.to) = 0 else j.came ≤ (if 2 < s then now else j.to) ∧ (if s = 2 then now else j.frm) ≤ (if 2 < s then now else j.to)
    by_cases e : s < 3
    · rw [if_pos e, if_neg (by omega)]
      split at h7
      · exact h7
      · omega
    · rw [if_neg e, if_pos (by omega), if_neg (by omega)]
      exact ⟨h10, h11⟩
theorem over_no (h : overJ j.state = true) : nextZ j.state what < 0 := by
  have := of_decide_eq_true h
  unfold nextZ
  rw [if_neg (by omega), if_neg (by omega), if_neg (by omega)]
  omega
/-- an end, or not yet: what is cancelled -/
theorem cancel_next (h : RightJ j) : overJ j.state = decide (nextZ j.state 6 < 0) ∧ (¬ nextZ j.state 6 < 0 → nextZ j.state 6 = 5) := by
  have hs := h.2.2.1.1
  have : j.state = 0 ∨ j.state = 1 ∨ j.state = 2 ∨ j.state = 3 ∨ j.state = 4 ∨ j.state = 5 ∨ j.state = 6 := by omega
  rcases this with e | e | e | e | e | e | e
  all_goals
    rw [e]
    decide
end

end Go.Proofs.Ytimgdlddfnglaaa

namespace Go.Proofs.Ytimgdlddfnglaaa
open Go.RowKit

def Glob (w : World) : Prop := (w = w)
theorem Glob.next {w w' : World} (h : Glob w) (hb : Below w.heap.size w w') : Glob w' := by
  have _h := h
  have _hb := hb
  first
    | exact rfl

end Go.Proofs.Ytimgdlddfnglaaa

namespace Go.Proofs.Ytimgdlddfnglaaa
open Go.RowKit

def sameB (xs ys : List Int) : Bool := xs == ys
theorem sameB_iff {xs ys : List Int} : sameB xs ys = true ↔ xs = ys := by unfold sameB; exact beq_iff_eq
set_option maxHeartbeats 400000 in
theorem same_any (A A' : Option Addr) (n c n' c' : Nat) (xs ys : List Int) (w : World) (B B' : Nat) (hr : RI w B A n xs) (hr' : RI w B' A' n' ys) (hn : n ≤ maxLen) (hn' : n' ≤ maxLen) :
    Calls Try.prog 10 #[.slice A n c, .slice A' n' c'] w fun e w' => e = .returned (.bool (sameB xs ys)) ∧ ∃ k, w' = w.drewN k := by
  unfold maxLen at hn hn'
  have HLEN := Lib.hid hr.1
  have HLEN' := Lib.hid hr'.1
  by_cases hnn : n = n'
  · subst hnn
    go_enter Try.func10, Try.ntmps10
    go_wp2
    go_loopw [5] (fun i wr => ∃ k : Nat, k ≤ n ∧ i = .int .i64 k ∧ (∀ i, i < k → xs.getD i 0 = ys.getD i 0) ∧ ∃ q, wr = w.drewN q) (fun i _ => n - (intOf i).toNat)
    case atStart => exact ⟨0, Nat.zero_le _, rfl, fun i hi => absurd hi (by omega), 0, rfl⟩
    case round =>
      obtain ⟨k, hk, rfl, hpre, q, rfl⟩ := hrel
      have HP := Lib.hid hpre
      clear hpre
      by_cases hlt : k < n
      · obtain ⟨b, off, rfl, hb, hc⟩ := hr.2 (by omega)
        obtain ⟨b', off', rfl, hb', hc'⟩ := hr'.2 (by omega)
        have hck := hc k hlt
        have hck' := hc' k hlt
        clear hc hr hc' hr'
        by_cases hx : xs.getD k 0 = ys.getD k 0
        · have HX := Lib.hid hx
          have h1 : (xs.getD k 0 == ys.getD k 0) = true := by simpa using hx
          have h2 : (xs.getD k 0 != ys.getD k 0) = false := by simpa using hx
          clear hx
          generalize hx : xs.getD k 0 = x at *
          generalize hy : ys.getD k 0 = y at *
          have HXX := Lib.hid hx
          have HYY := Lib.hid hy
          clear hx hy
          go_wp2
          go_quiet (fail)
          go_wp2
          go_roundw
          case rel =>
            refine ⟨k + 1, by omega, by go_num, ?_, _, rfl⟩
            intro i hi
            rcases Nat.lt_or_ge i k with h | h
            · exact HP.out i h
            · obtain rfl : i = k := by omega
              rw [HXX.out, HYY.out]; exact HX.out
          case measure => simp [intOf]; omega
        · have hne : Hid (sameB xs ys = false) := Lib.hid (by
            rw [← Bool.not_eq_true, sameB_iff]
            rintro rfl; exact hx rfl)
          have h1 : (xs.getD k 0 == ys.getD k 0) = false := by simpa using hx
          have h2 : (xs.getD k 0 != ys.getD k 0) = true := by simpa using hx
          clear hx
          generalize xs.getD k 0 = x at *
          generalize ys.getD k 0 = y at *
          go_wp2
          go_quiet (fail)
          go_wp2
          go_ret
          exact ⟨ret_bool hne.out, _, World.drewN_drewN _ _ _⟩
      · have hall : Hid (sameB xs ys = true) := Lib.hid (by
          rw [sameB_iff]
          have h1 := HLEN.out; have h2 := HLEN'.out
          refine List.ext_getElem (by omega) fun i hi hi' => ?_
          have := HP.out i (by omega)
          rwa [show xs.getD i 0 = xs[i] by simp [List.getD, hi], show ys.getD i 0 = ys[i] by simp [List.getD, hi']] at this)
        clear hr hr'
        go_wp2
        go_ret
        exact ⟨ret_bool hall.out, _, rfl⟩
  · have hne : Hid (sameB xs ys = false) := Lib.hid (by
      rw [← Bool.not_eq_true, sameB_iff]
      rintro rfl
      have h1 := HLEN.out; have h2 := HLEN'.out; omega)
    clear hr hr'
    go_enter Try.func10, Try.ntmps10
    go_wp2
    go_ret
    exact ⟨ret_bool hne.out, 0, rfl⟩

/-- of two that are the same -/
theorem r_same1 {A A' : Option Addr} {n c n' c' : Nat} {xs ys : List Int} {w : World} (hr : RI w w.heap.size A n xs) (hr' : RI w w.heap.size A' n' ys) (hn : n ≤ maxLen) (h : xs = ys) :
    Calls Try.prog 10 #[.slice A n c, .slice A' n' c'] w fun e w' => e = .returned (.bool true) ∧ Below w.heap.size w w' := by
  subst h
  exact (same_any A A' n c n' c' xs xs w _ _ hr hr' hn (by rw [← hr'.1, hr.1]; exact hn)).mono fun _ _ ⟨h1, k, h2⟩ => ⟨by rw [h1, sameB_iff.2 rfl], by rw [h2]; exact bel_drew w k⟩

end Go.Proofs.Ytimgdlddfnglaaa

namespace Go.Proofs.Ytimgdlddfnglaaa
open Go.RowKit

theorem getD_mem_i64 (xs : List Int) (h : ∀ x ∈ xs, -9223372036854775808 ≤ x ∧ x ≤ 9223372036854775807) (j : Nat) : -9223372036854775808 ≤ xs.getD j 0 ∧ xs.getD j 0 ≤ 9223372036854775807 := by
  by_cases hj : j < xs.length
  · have : xs.getD j 0 = xs[j] := by simp [List.getD, hj]
    rw [this]; exact h _ (List.getElem_mem hj)
  · have : xs.getD j 0 = 0 := by simp [List.getD, hj]
    omega

def lastOf (xs : List Int) (k : Nat) : Int := if k = 0 then -1 else xs.getD (k - 1) 0
theorem right_step (xs : List Int) (k : Nat) (hpre : ∀ i, i < k → okAt xs i) : okAt xs k ↔ (lastOf xs k < xs.getD k 0 ∧ xs.getD k 0 < 256) := by
  unfold lastOf
  rcases Nat.eq_zero_or_pos k with rfl | hp
  · unfold okAt; simp; omega
  · have h := hpre (k - 1) (by omega)
    rw [if_neg (by omega)]
    unfold okAt at h ⊢
    omega





end Go.Proofs.Ytimgdlddfnglaaa
