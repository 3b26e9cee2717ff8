/- What set.readRun answers: one run's text; the library's variable MaxLen holds some int. -/
import Derived.Test.YtgifhbjcelkjkaaDoorSetReadNum
namespace Go.Proofs.YtgifhbjcelkjkaaDoor
open Go.RowKit

/-- 'the run's ends, or no', kept from the walk -/
def RunIs (l : List UInt8) (A B : Int) (ok : Bool) : Prop :=
  match rrun l with
  | none => ok = false
  | some (a, b) => A = a ∧ B = b ∧ ok = true
def RunPost (l : List UInt8) (w : World) (e : Ending) (w' : World) : Prop :=
  (∃ A B ok, RunIs l A B ok ∧ e = .returned (.tuple #[.int .i64 A, .int .i64 B, .bool ok])) ∧ ∃ k, w' = w.drewN k

theorem cut_free {l : List UInt8} (h : (45 : UInt8) ∉ l) : Lib.cut l [45] = (l, [], false) := by
  rcases index_one 45 l with ⟨h1, _⟩ | ⟨a, r, rfl, _, _⟩
  · unfold Lib.cut; rw [h1]; rfl
  · exact absurd (by simp) h
theorem cut_hit {a r : List UInt8} (h : (45 : UInt8) ∉ a) : Lib.cut (a ++ 45 :: r) [45] = (a, r, true) := by
  rcases index_one 45 (a ++ 45 :: r) with ⟨_, h2⟩ | ⟨a', r', h1, h2, h3⟩
  · exact absurd (by simp) h2
  · have e : a = a' ∧ r = r' := by
      have g1 := takeWhile_hit (r := r) h
      have g2 := takeWhile_hit (r := r') h2
      rw [h1, g2] at g1
      have ha : a = a' := g1.symm
      subst ha
      have := List.append_cancel_left h1
      injection this with _ h4
      exact ⟨rfl, h4⟩
    obtain ⟨rfl, rfl⟩ := e
    unfold Lib.cut
    rw [h3, if_pos (by omega)]
    have e1 : (((a.length : Nat) : Int).toNat) = a.length := by simp
    rw [e1, List.take_left]
    have e2 : (a ++ 45 :: r).drop (a.length + [(45 : UInt8)].length) = r := by rw [List.drop_append]; simp
    rw [e2]
theorem rrun_free {l : List UInt8} (h : (45 : UInt8) ∉ l) : rrun l = (rn l).map fun a => (a, a) := by
  unfold rrun; rw [cutD_free h]
theorem rrun_hit0 {a r : List UInt8} (h : (45 : UInt8) ∉ a) (h1 : rn a = none) : rrun (a ++ 45 :: r) = none := by
  unfold rrun; rw [cutD_hit h]; simp only [h1]
theorem rrun_hit1 {a r : List UInt8} {v : Nat} (h : (45 : UInt8) ∉ a) (h1 : rn a = some v) (h2 : rn r = none) : rrun (a ++ 45 :: r) = none := by
  unfold rrun; rw [cutD_hit h]; simp only [h1, h2]
theorem rrun_hit2 {a r : List UInt8} {v u : Nat} (h : (45 : UInt8) ∉ a) (h1 : rn a = some v) (h2 : rn r = some u) : rrun (a ++ 45 :: r) = if v < u then some (v, u) else none := by
  unfold rrun; rw [cutD_hit h]; simp only [h1, h2]
theorem run_free {l : List UInt8} (h : (45 : UInt8) ∉ l) : RunIs l (rnI l) (rnI l) (rnOk l) := by
  unfold RunIs
  rw [rrun_free h]
  cases hr : rn l with
  | none => exact (rnI_none hr).2
  | some v => exact ⟨(rnI_some hr).1, (rnI_some hr).1, (rnI_some hr).2⟩
theorem run_hit_none {a r : List UInt8} (h : (45 : UInt8) ∉ a) (h1 : rnOk a = false) (A B : Int) : RunIs (a ++ 45 :: r) A B false := by
  unfold RunIs
  cases hr : rn a with
  | none => rw [rrun_hit0 h hr]
  | some v => rw [(rnI_some hr).2] at h1; cases h1
theorem run_hit {a r : List UInt8} (h : (45 : UInt8) ∉ a) (h1 : rnOk a = true) : RunIs (a ++ 45 :: r) (rnI a) (rnI r) (rnOk r && decide (rnI a < rnI r)) := by
  unfold RunIs
  cases hr : rn a with
  | none => rw [(rnI_none hr).2] at h1; cases h1
  | some v =>
    cases ht : rn r with
    | none => rw [rrun_hit1 h hr ht, (rnI_none ht).2]; rfl
    | some u =>
      rw [rrun_hit2 h hr ht, (rnI_some hr).1, (rnI_some ht).1, (rnI_some ht).2]
      by_cases hvu : v < u
      · rw [if_pos hvu]
        exact ⟨rfl, rfl, by simp; exact hvu⟩
      · rw [if_neg hvu]
        simp; omega

set_option maxHeartbeats 2000000 in
theorem readRun_any (s : ByteArray) (m : Int) (w : World) (hs : s.size ≤ 8192) (hm : w.cell? ⟨1, 0, none⟩ = some (.int .i64 m)) :
    Calls Tryd.prog 34 #[.string s] w (RunPost s.data.toList w) := by
  have HSL : Hid (s = ⟨s.data.toList.toArray⟩) := Lib.hid rfl
  rcases index_one 45 s.data.toList with ⟨_, hno⟩ | ⟨a, r, hl, hno, _⟩
  · have HC := Lib.hid (cut_free hno)
    have HR := Lib.hid (run_free hno)
    go_enter Tryd.func34, Tryd.ntmps34
    go_wp2_with fail
    refine (Tryd.strings_Cut s ⟨#[45]⟩ m _ (by omega) hm).mono ?_
    rintro e w1 ⟨rfl, q, rfl⟩
    rw [show (⟨#[45]⟩ : ByteArray).data.toList = [45] from rfl, HC.out]
    clear hno
    go_wp2_with fail
    refine (readNumber_any _ _ (by show s.data.toList.toArray.size ≤ maxLen; unfold maxLen; have : s.data.toList.toArray.size = s.size := rfl; omega)).mono ?_
    rintro e w1 ⟨rfl, rfl⟩
    rw [show (⟨s.data.toList.toArray⟩ : ByteArray).data.toList = s.data.toList from rfl]
    generalize hI : rnI s.data.toList = I at *
    generalize hO : rnOk s.data.toList = O at *
    have HI := Lib.hid hI
    have HO := Lib.hid hO
    clear hI hO
    cases O with
    | false =>
      go_wp2
      go_ret3
      exact ⟨⟨_, _, _, HR.out, rfl⟩, q, rfl⟩
    | true =>
      go_wp2
      go_ret3
      exact ⟨⟨_, _, _, HR.out, rfl⟩, q, rfl⟩
  · have HC := Lib.hid (cut_hit (r := r) hno)
    have HL := Lib.hid hl
    have HNO := Lib.hid hno
    have hsz : a.length + r.length + 1 = s.size := by
      have : s.data.toList.length = s.size := rfl
      rw [hl] at this
      simp at this; omega
    clear hl hno
    go_enter Tryd.func34, Tryd.ntmps34
    go_wp2_with fail
    refine (Tryd.strings_Cut s ⟨#[45]⟩ m _ (by omega) hm).mono ?_
    rintro e w1 ⟨rfl, q, rfl⟩
    rw [show (⟨#[45]⟩ : ByteArray).data.toList = [45] from rfl, HL.out, HC.out]
    go_wp2_with fail
    refine (readNumber_any _ _ (by show a.toArray.size ≤ maxLen; unfold maxLen; simp; omega)).mono ?_
    rintro e w1 ⟨rfl, rfl⟩
    rw [show (⟨a.toArray⟩ : ByteArray).data.toList = a from rfl]
    have HRN := Lib.hid (fun h A B => @run_hit_none a r HNO.out h A B)
    have HRH := Lib.hid (fun h => @run_hit a r HNO.out h)
    generalize rnI a = I at *
    generalize rnOk a = O at *
    cases O with
    | false =>
      go_wp2
      go_ret3
      exact ⟨⟨_, _, _, by rw [HL.out]; exact HRN.out (by first | rfl | trivial) _ _, rfl⟩, q, rfl⟩
    | true =>
      go_wp2_with fail
      refine (readNumber_any _ _ (by show r.toArray.size ≤ maxLen; unfold maxLen; simp; omega)).mono ?_
      rintro e w1 ⟨rfl, rfl⟩
      rw [show (⟨r.toArray⟩ : ByteArray).data.toList = r from rfl]
      generalize rnI r = J at *
      generalize rnOk r = P at *
      cases P with
      | false =>
        go_wp2
        go_ret3
        exact ⟨⟨_, _, _, by rw [HL.out]; exact HRH.out (by first | rfl | trivial), rfl⟩, q, rfl⟩
      | true =>
        go_wp2
        go_ret3
        exact ⟨⟨_, _, _, by rw [HL.out]; exact HRH.out (by first | rfl | trivial), rfl⟩, q, rfl⟩

end Go.Proofs.YtgifhbjcelkjkaaDoor
