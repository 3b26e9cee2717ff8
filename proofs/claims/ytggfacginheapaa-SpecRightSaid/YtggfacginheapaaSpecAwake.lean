/- The fixed answers that the statements of layer 7 ask for first, as a walk over the contracts. -/
import Derived.Test.YtggfacginheapaaSpecFace
namespace Go.Proofs.Ytggfacginheapaa
open Go.RowKit

def sA : Sp := ⟨2, 3, 1, ⟨#[]⟩, false, 5, 0⟩
def sB : Sp := ⟨1, 3, 1, ⟨#[]⟩, false, 5, 0⟩
theorem sA_right : rightS sA = true := by decide
theorem sA_asks : asksS sA = (2, 6, 2) := by decide
theorem sA_ends : endsS sA 10 = 15 := by decide
theorem sA_part : partS sA 1 = (sB, 0) := by rfl
theorem sA_ahead : aheadS sB sA = true := by decide
theorem sA_ask : SAsk sA := ⟨i64_of (by decide) (by decide), i64_of (by decide) (by decide), i64_of (by decide) (by decide), by decide, i64_of (by decide) (by decide), i64_of (by decide) (by decide)⟩
theorem sB_ask : SAsk sB := ⟨i64_of (by decide) (by decide), i64_of (by decide) (by decide), i64_of (by decide) (by decide), by decide, i64_of (by decide) (by decide), i64_of (by decide) (by decide)⟩
theorem box_sA (w : World) : BoxS (w.alloc (.cells #[.int .i64 2, .int .i64 3, .int .i64 1, .string ⟨#[]⟩, .bool false, .int .i64 5, .int .i64 0] 23)) w.heap.size sA := box_new w sA

set_option maxRecDepth 100000 in
set_option maxHeartbeats 4000000 in
theorem awake7_any (H : SpecOk) (w : World) (hG : Glob w) :
    Calls Try.prog 7 #[] w fun e w' => e = .returned (.bool true) ∧ Below w.heap.size w w' := by
  obtain ⟨W, hW⟩ : ∃ W, W = w.alloc (.cells #[.int .i64 2, .int .i64 3, .int .i64 1, .string ⟨#[]⟩, .bool false, .int .i64 5, .int .i64 0] 23) := ⟨_, rfl⟩
  have BA0 : Hid (BoxS W w.heap.size sA) := Lib.hid (by rw [hW]; exact box_sA w)
  have HB0 : Hid (Below w.heap.size w W) := Lib.hid (by rw [hW]; exact (Below.refl _ _).alloc (Nat.le_refl _) _)
  have HG0 := Lib.hid (hG.next HB0.out)
  go_enter Try.func7, Try.ntmps7
  go_wp2_with fail
  rw [← hW]
  refine (s7_asks H sA_ask HG0.out sA_asks).mono ?_
  rintro e w1 ⟨rfl, hb⟩
  have HB1 := Lib.hid (HB0.out.trans (hb.mono HB0.out.size))
  have HG1 := Lib.hid (HG0.out.next hb)
  have BA1 := Lib.hid (BA0.out.next hb)
  clear hb
  have a0 := BA1.out.c0
  have a1 := BA1.out.c1
  have a2 := BA1.out.c2
  have a3 := BA1.out.c3
  have a4 := BA1.out.c4
  have a5 := BA1.out.c5
  have a6 := BA1.out.c6
  go_wp2_with fail
  refine (s7_part H sA_ask HG1.out (i64_of (by decide) (by decide)) sA_part).mono ?_
  rintro e w2 ⟨rfl, hb⟩
  have HB2 := Lib.hid (HB1.out.trans (hb.mono HB1.out.size))
  have HG2 := Lib.hid (HG1.out.next hb)
  have BA2 := Lib.hid (BA1.out.next hb)
  clear hb
  clear a0 a1 a2 a3 a4 a5 a6
  have BB3 : Hid (BoxS (w2.alloc (.cells #[.int .i64 sB.nodes, .int .i64 sB.cores, .int .i64 sB.gpus, .string sB.tag, .bool sB.whole, .int .i64 sB.long, .int .i64 sB.prio] 23)) w2.heap.size sB) := Lib.hid (box_new w2 sB)
  have BA3 : Hid (BoxS (w2.alloc (.cells #[.int .i64 sB.nodes, .int .i64 sB.cores, .int .i64 sB.gpus, .string sB.tag, .bool sB.whole, .int .i64 sB.long, .int .i64 sB.prio] 23)) w.heap.size sA) := Lib.hid (BA2.out.alloc _)
  have HX3 : Hid (Below w2.heap.size w2 (w2.alloc (.cells #[.int .i64 sB.nodes, .int .i64 sB.cores, .int .i64 sB.gpus, .string sB.tag, .bool sB.whole, .int .i64 sB.long, .int .i64 sB.prio] 23))) := Lib.hid ((Below.refl _ _).alloc (Nat.le_refl _) _)
  have HB3 := Lib.hid (HB2.out.trans (HX3.out.mono HB2.out.size))
  have HG3 := Lib.hid (HG2.out.next HX3.out)
  have a0 := BA3.out.c0
  have a1 := BA3.out.c1
  have a2 := BA3.out.c2
  have a3 := BA3.out.c3
  have a4 := BA3.out.c4
  have a5 := BA3.out.c5
  have a6 := BA3.out.c6
  go_wp2_with fail
  refine (s7_ends H sA_ask HG3.out (i64_of (by decide) (by decide)) sA_ends).mono ?_
  rintro e w4 ⟨rfl, hb⟩
  have HB4 := Lib.hid (HB3.out.trans (hb.mono HB3.out.size))
  have HG4 := Lib.hid (HG3.out.next hb)
  have BA4 := Lib.hid (BA3.out.next hb)
  have BB4 := Lib.hid (BB3.out.next hb)
  clear hb
  clear a0 a1 a2 a3 a4 a5 a6
  have a0 := BA4.out.c0
  have a1 := BA4.out.c1
  have a2 := BA4.out.c2
  have a3 := BA4.out.c3
  have a4 := BA4.out.c4
  have a5 := BA4.out.c5
  have a6 := BA4.out.c6
  have b0 := BB4.out.c0
  have b1 := BB4.out.c1
  have b2 := BB4.out.c2
  have b3 := BB4.out.c3
  have b4 := BB4.out.c4
  have b5 := BB4.out.c5
  have b6 := BB4.out.c6
  go_wp2_with fail
  refine (s7_ahead H sB_ask HG4.out sA_ask sA_ahead).mono ?_
  rintro e w5 ⟨rfl, hb⟩
  have HB5 := Lib.hid (HB4.out.trans (hb.mono HB4.out.size))
  have HG5 := Lib.hid (HG4.out.next hb)
  have BA5 := Lib.hid (BA4.out.next hb)
  have BB5 := Lib.hid (BB4.out.next hb)
  clear hb
  clear a0 a1 a2 a3 a4 a5 a6 b0 b1 b2 b3 b4 b5 b6
  have a0 := BA5.out.c0
  have a1 := BA5.out.c1
  have a2 := BA5.out.c2
  have a3 := BA5.out.c3
  have a4 := BA5.out.c4
  have a5 := BA5.out.c5
  have a6 := BA5.out.c6
  go_wp2_with fail
  refine (s7_right H sA_ask HG5.out sA_right).mono ?_
  rintro e w6 ⟨rfl, hb⟩
  have HB6 := Lib.hid (HB5.out.trans (hb.mono HB5.out.size))
  have HG6 := Lib.hid (HG5.out.next hb)
  have BA6 := Lib.hid (BA5.out.next hb)
  have BB6 := Lib.hid (BB5.out.next hb)
  clear hb
  clear a0 a1 a2 a3 a4 a5 a6
  go_wp2
  go_ret
  exact ⟨rfl, HB6.out⟩

end Go.Proofs.Ytggfacginheapaa
