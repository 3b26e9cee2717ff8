/- What the program's functions of layer 7 (spec) answer, as one list of contracts: the statements' walks lean on it alone. The program's small functions of layer 5 (graph): Tag, partOf, tagged: what they answer of any string, kinds, thing. -/
import Derived.Test.YtimgdlddfnglaaaMg03
import Derived.Test.YtimgdlddfnglaaaMg04
import Derived.LoopTactic
import Derived.Deep.QuietTactic
import Derived.BigQuiet
import Derived.Test.YtimgdlddfnglaaaMg09
namespace Go.Proofs.Ytimgdlddfnglaaa
open Go.RowKit

structure SpecOk : Prop where
  right : ∀ (s : Sp) (w : World), SAsk s → Glob w → Calls Try.prog 38 #[spV s] w fun e w' => e = .returned (.bool (rightS s)) ∧ Below w.heap.size w w'

section
variable (H : SpecOk) {s t : Sp} {w : World} (hs : SAsk s) (hG : Glob w)
include H hs hG
theorem s7_right {b : Bool} (h : rightS s = b) : Calls Try.prog 38 #[.agg #[.int .i64 s.nodes, .int .i64 s.cores, .int .i64 s.gpus, .string s.tag, .bool s.whole, .int .i64 s.long, .int .i64 s.prio]] w fun e w' => e = .returned (.bool b) ∧ Below w.heap.size w w' := by
  subst h; exact H.right s w hs hG
end
theorem i64_of {x : Int} (h1 : -2000000000000 ≤ x) (h2 : x ≤ 2000000000000) : I64 x := by unfold I64; omega

end Go.Proofs.Ytimgdlddfnglaaa

namespace Go.Proofs.Ytimgdlddfnglaaa
open Go.RowKit

/-- may a thing of the one kind be part of one of the other -/
def partK (k u : Int) : Bool := decide ((k = 1 ∧ u = 0) ∨ (k = 2 ∧ (u = 0 ∨ u = 1)) ∨ ((k = 3 ∨ k = 4) ∧ u = 2))

/-- a byte that is a letter or a digit: what the two tests say -/
theorem tagC_parts (c : UInt8) : (tagC c = true ∧ ((decide (97 ≤ (c.toNat : Int)) = true ∧ decide ((c.toNat : Int) ≤ 122) = true ∧ decide (48 ≤ (c.toNat : Int)) = true ∧ decide ((c.toNat : Int) ≤ 57) = false) ∨
    (decide (97 ≤ (c.toNat : Int)) = false ∧ decide ((c.toNat : Int) ≤ 122) = true ∧ decide (48 ≤ (c.toNat : Int)) = true ∧ decide ((c.toNat : Int) ≤ 57) = true))) ∨
  (tagC c = false ∧ ((decide (97 ≤ (c.toNat : Int)) = false ∧ decide ((c.toNat : Int) ≤ 122) = true ∧ decide (48 ≤ (c.toNat : Int)) = false ∧ decide ((c.toNat : Int) ≤ 57) = true) ∨
    (decide (97 ≤ (c.toNat : Int)) = false ∧ decide ((c.toNat : Int) ≤ 122) = true ∧ decide (48 ≤ (c.toNat : Int)) = true ∧ decide ((c.toNat : Int) ≤ 57) = false) ∨
    (decide (97 ≤ (c.toNat : Int)) = true ∧ decide ((c.toNat : Int) ≤ 122) = false ∧ decide (48 ≤ (c.toNat : Int)) = true ∧ decide ((c.toNat : Int) ≤ 57) = false))) := by
  unfold tagC
  simp only [Bool.or_eq_true, Bool.and_eq_true, decide_eq_true_eq, decide_eq_false_iff_not, Bool.or_eq_false_iff, Bool.and_eq_false_iff]
  omega

def TagPost (s : ByteArray) (w : World) (e : Ending) (w' : World) : Prop := e = .returned (.bool (tagB s)) ∧ ∃ q, w' = w.drewN q
set_option maxRecDepth 100000 in
set_option maxHeartbeats 2000000 in
theorem tag_any (s : ByteArray) (w : World) (hs : s.size ≤ maxLen) :
    Calls Try.prog 56 #[.string s] w (TagPost s w) := by
  unfold maxLen at hs
  by_cases h16 : 16 < s.size
  · have e1 : Hid (tagB s = false) := Lib.hid (by unfold tagB; rw [decide_eq_false (by omega), Bool.and_false])
    go_enter Try.func56, Try.ntmps56
    go_wp2
    go_ret
    exact ⟨ret_bool e1.out, 0, rfl⟩
  · have h16d : decide ((16 : Int) < s.size) = false := by simp; omega
    go_enter Try.func56, Try.ntmps56
    go_wp2
    go_loopw [11] (fun i wr => ∃ k : Nat, k ≤ s.size ∧ i = .int .i64 k ∧ (s.data.toList.take k).all tagC = true ∧ ∃ q, wr = w.drewN q) (fun i _ => s.size - (intOf i).toNat)
    case atStart => exact ⟨0, Nat.zero_le _, rfl, rfl, 0, rfl⟩
    case round =>
      obtain ⟨k, hk, rfl, hpre, q, rfl⟩ := hrel
      have HP := Lib.hid hpre
      clear hpre
      by_cases hlt : k < s.size
      · have hs1 := Lib.hid (bytes_snoc s k hlt)
        rcases tagC_parts s[k] with ⟨hc, h⟩ | ⟨hc, h⟩
        · have e1 : Hid ((s.data.toList.take (k + 1)).all tagC = true) := Lib.hid (by rw [hs1.out, List.all_append, HP.out]; simp [hc])
          clear hc hs1
          rcases h with ⟨d0, d1, d2, d3⟩ | ⟨d0, d1, d2, d3⟩
          all_goals
            go_wp2
            go_quiet (fail)
            go_wp2
            go_roundw
            case rel => exact ⟨k + 1, by omega, by go_num, e1.out, q + _, rfl⟩
            case measure => simp [intOf]; omega
        · have e1 : Hid (tagB s = false) := Lib.hid (by
            unfold tagB
            have : s.data.toList.all tagC = false := by
              rw [List.all_eq_false]
              exact ⟨s[k], Array.getElem_mem_toList _, by rw [hc]; simp⟩
            rw [this]; rfl)
          clear hc hs1
          rcases h with ⟨d0, d1, d2, d3⟩ | ⟨d0, d1, d2, d3⟩ | ⟨d0, d1, d2, d3⟩
          all_goals
            go_wp2
            go_quiet (fail)
            go_wp2
            go_ret
            exact ⟨ret_bool e1.out, q + _, rfl⟩
      · have hkn : k = s.size := by omega
        have e1 : Hid (tagB s = true) := Lib.hid (by
          have := HP.out
          rw [List.take_of_length_le (by simp; omega)] at this
          unfold tagB
          rw [this, decide_eq_true (by omega)]; rfl)
        clear hkn
        go_wp2
        go_ret
        exact ⟨ret_bool e1.out, q, rfl⟩

end Go.Proofs.Ytimgdlddfnglaaa
