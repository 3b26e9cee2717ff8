/- The fixed answers that the statements of layer 8 ask for first, as a walk over the contracts. -/
import Derived.Laws.StructEq
import Derived.Test.YtlpogkcfjbabaaaMg06
namespace Go.Proofs.Ytlpogkcfjbabaaa
open Go.RowKit

def sA8 : Sp := ⟨2, 3, 0, ⟨#[97]⟩, true, 5, -1⟩
theorem awake8_set : ptSet [0, 1, 2, 3, 7] = ([2, 2, 0, 3, 4, 0], 0) := by decide +kernel
theorem awake8_spec : spReadSQ [1, 2, 3, 0, 1, 97, 1, 5, 1] = (sA8, 0) := by
  have h1 : rightS sA8 = true := by decide +kernel
  have h2 : specB sA8 = [1, 2, 3, 0, 1, 97, 1, 5, 1] := by decide +kernel
  rw [← h2]
  exact (spec_backQ h1).2

set_option maxRecDepth 100000 in
set_option maxHeartbeats 4000000 in
theorem awake8_any (H : CodeOk) (w : World) (hG : Glob w) : Calls Try.prog 7 #[] w fun e w' => e = .returned (.bool true) ∧ Below w.heap.size w w' := by
  have hb0 := Below.alloc (Below.refl w.heap.size w) (Nat.le_refl _) (.cells #[.int .i64 0, .int .i64 1, .int .i64 2, .int .i64 3, .int .i64 7] 3)
  have HG0 := Lib.hid (hG.next hb0)
  have HB0 := Lib.hid hb0
  have HL0 : Hid (LAsk (w.alloc (.cells #[.int .i64 0, .int .i64 1, .int .i64 2, .int .i64 3, .int .i64 7] 3)) (some ⟨w.heap.size, 0, none⟩) 5 5 [0, 1, 2, 3, 7]) := Lib.hid (lask_lit w [0, 1, 2, 3, 7] 3 (by decide) (by intro x hx; simp at hx; unfold I64; omega))
  clear hb0 hG
  go_enter Try.func7, Try.ntmps7
  go_wp2_with fail
  refine (c8_set H HG0.out HL0.out awake8_set).mono ?_
  rintro e w1 ⟨⟨A1, c1, rfl, ha1, _⟩, hb⟩
  have HB1 := Lib.hid (HB0.out.trans (hb.mono HB0.out.size))
  have HG1 := Lib.hid (HG0.out.next hb)
  have HA1 := Lib.hid ha1
  clear hb ha1
  have hb2 := Below.alloc (Below.refl w1.heap.size w1) (Nat.le_refl _) (.cells #[.int .u8 1, .int .u8 2, .int .u8 3, .int .u8 0, .int .u8 1, .int .u8 97, .int .u8 1, .int .u8 5, .int .u8 1] 5)
  have HB2 := Lib.hid (HB1.out.trans (hb2.mono HB1.out.size))
  have HG2 := Lib.hid (HG1.out.next hb2)
  have HA2 := Lib.hid (HA1.out.next hb2)
  have HL2 : Hid (BAsk (w1.alloc (.cells #[.int .u8 1, .int .u8 2, .int .u8 3, .int .u8 0, .int .u8 1, .int .u8 97, .int .u8 1, .int .u8 5, .int .u8 1] 5)) (w1.alloc (.cells #[.int .u8 1, .int .u8 2, .int .u8 3, .int .u8 0, .int .u8 1, .int .u8 97, .int .u8 1, .int .u8 5, .int .u8 1] 5)).heap.size (some ⟨w1.heap.size, 0, none⟩) 9 9 [1, 2, 3, 0, 1, 97, 1, 5, 1]) := Lib.hid (bask_lit (t := 5) w1 [1, 2, 3, 0, 1, 97, 1, 5, 1] (by decide))
  clear hb2
  have HC : Hid (Calls Try.prog 16 #[.slice (some ⟨w1.heap.size, 0, none⟩) 9 9] (w1.alloc (.cells #[.int .u8 1, .int .u8 2, .int .u8 3, .int .u8 0, .int .u8 1, .int .u8 97, .int .u8 1, .int .u8 5, .int .u8 1] 5)) fun e w' => e = .returned (.tuple #[.agg #[.int .i64 2, .int .i64 3, .int .i64 0, .string ⟨#[97]⟩, .bool true, .int .i64 5, .int .i64 (-1)], .int .i64 0]) ∧ Below (w1.alloc (.cells #[.int .u8 1, .int .u8 2, .int .u8 3, .int .u8 0, .int .u8 1, .int .u8 97, .int .u8 1, .int .u8 5, .int .u8 1] 5)).heap.size (w1.alloc (.cells #[.int .u8 1, .int .u8 2, .int .u8 3, .int .u8 0, .int .u8 1, .int .u8 97, .int .u8 1, .int .u8 5, .int .u8 1] 5)) w') := Lib.hid (c8_readSpec H HG2.out HL2.out (by omega) awake8_spec)
  go_wp2_with fail
  refine HC.out.mono ?_
  rintro e w3 ⟨rfl, hb⟩
  have HB3 := Lib.hid (HB2.out.trans (hb.mono HB2.out.size))
  have HA3 := Lib.hid (HA2.out.next hb)
  clear hb
  have HB4 : Hid (Below w.heap.size w (w3.alloc (.cells #[.int .i64 2, .int .i64 3, .int .i64 0, .string ⟨#[97]⟩, .bool true, .int .i64 5, .int .i64 (-1)] 23))) := Lib.hid (HB3.out.alloc HB3.out.size _)
  have s1 : (convert 28 9 (.slice A1 6 c1)).run Try.prog (w3.alloc (.cells #[.int .i64 2, .int .i64 3, .int .i64 0, .string ⟨#[97]⟩, .bool true, .int .i64 5, .int .i64 (-1)] 23)) = .ok (.string ⟨#[2, 2, 0, 3, 4, 0]⟩) (w3.alloc (.cells #[.int .i64 2, .int .i64 3, .int .i64 0, .string ⟨#[97]⟩, .bool true, .int .i64 5, .int .i64 (-1)] 23)) := string_of (c := c1) (HA3.out.next (Below.alloc (Below.refl w3.heap.size w3) (Nat.le_refl _) _)).reads
  go_wp2
  go_ret
  exact ⟨rfl, HB4.out⟩

end Go.Proofs.Ytlpogkcfjbabaaa
