/- What the words of a set answer: join, meet, less and empty, on four words each; every word below 2^64. -/
import Derived.Test.YtnlgnpdajblfnaaDoorSetBits
import Derived.Test.YtnlgnpdajblfnaaDoorSetMem
import Derived.LoopTactic
import Derived.RegionTactic
import Derived.ChangeAlike
import Derived.Handy
import Derived.Laws.BitsAllLaws
namespace Go.Proofs.YtnlgnpdajblfnaaDoor
open Go.RowKit

def U64 (a : Nat) : Prop := a < 18446744073709551616
theorem or64 {a b : Nat} (ha : U64 a) (hb : U64 b) : bits .or .u64 (a : Int) (b : Int) = ((a ||| b : Nat) : Int) := u64_or_nat a b ha hb
theorem and64 {a b : Nat} (ha : U64 a) (hb : U64 b) : bits .and .u64 (a : Int) (b : Int) = ((a &&& b : Nat) : Int) := u64_and_nat a b ha hb
/-- the complement of a word -/
def neg64 (b : Nat) : Nat := 18446744073709551615 - b
theorem andNot64 {a b : Nat} (ha : U64 a) (hb : U64 b) : bits .andNot .u64 (a : Int) (b : Int) = ((a &&& neg64 b : Nat) : Int) := u64_andNot_nat a b ha hb


set_option maxHeartbeats 1000000 in
theorem wmeet_any (a0 a1 a2 a3 b0 b1 b2 b3 : Nat) (w : World) (ha0 : U64 a0) (ha1 : U64 a1) (ha2 : U64 a2) (ha3 : U64 a3) (hb0 : U64 b0) (hb1 : U64 b1) (hb2 : U64 b2) (hb3 : U64 b3) :
    Calls Tryd.prog 32 #[.agg #[.int .u64 a0, .int .u64 a1, .int .u64 a2, .int .u64 a3], .agg #[.int .u64 b0, .int .u64 b1, .int .u64 b2, .int .u64 b3]] w fun e w' =>
      e = .returned (.agg #[.int .u64 (a0 &&& b0 : Nat), .int .u64 (a1 &&& b1 : Nat), .int .u64 (a2 &&& b2 : Nat), .int .u64 (a3 &&& b3 : Nat)]) ∧ Below w.heap.size w w' := by
  have e0 := and64 ha0 hb0
  have e1 := and64 ha1 hb1
  have e2 := and64 ha2 hb2
  have e3 := and64 ha3 hb3
  clear ha0 ha1 ha2 ha3 hb0 hb1 hb2 hb3
  go_enter Tryd.func32, Tryd.ntmps32
  go_wp2
  refine wp_loop_rounds 6 ?_
  rw [rounds_succ]; go_wp2
  go_region
  go_wp2
  rw [rounds_succ]; go_wp2
  go_region
  go_wp2
  rw [rounds_succ]; go_wp2
  go_region
  go_wp2
  rw [rounds_succ]; go_wp2
  go_region
  go_wp2
  rw [rounds_succ]; go_wp2
  refine bodyPost_ret (v := .agg #[.int .u64 (a0 &&& b0 : Nat), .int .u64 (a1 &&& b1 : Nat), .int .u64 (a2 &&& b2 : Nat), .int .u64 (a3 &&& b3 : Nat)]) (by simp [results, Tryd.results32, go_sem]) rfl ⟨rfl, ?_⟩
  go_grown

set_option maxHeartbeats 1000000 in
theorem wless_any (a0 a1 a2 a3 b0 b1 b2 b3 : Nat) (w : World) (ha0 : U64 a0) (ha1 : U64 a1) (ha2 : U64 a2) (ha3 : U64 a3) (hb0 : U64 b0) (hb1 : U64 b1) (hb2 : U64 b2) (hb3 : U64 b3) :
    Calls Tryd.prog 23 #[.agg #[.int .u64 a0, .int .u64 a1, .int .u64 a2, .int .u64 a3], .agg #[.int .u64 b0, .int .u64 b1, .int .u64 b2, .int .u64 b3]] w fun e w' =>
      e = .returned (.agg #[.int .u64 (a0 &&& neg64 b0 : Nat), .int .u64 (a1 &&& neg64 b1 : Nat), .int .u64 (a2 &&& neg64 b2 : Nat), .int .u64 (a3 &&& neg64 b3 : Nat)]) ∧ Below w.heap.size w w' := by
  have e0 := andNot64 ha0 hb0
  have e1 := andNot64 ha1 hb1
  have e2 := andNot64 ha2 hb2
  have e3 := andNot64 ha3 hb3
  clear ha0 ha1 ha2 ha3 hb0 hb1 hb2 hb3
  go_enter Tryd.func23, Tryd.ntmps23
  go_wp2
  refine wp_loop_rounds 6 ?_
  rw [rounds_succ]; go_wp2
  go_region
  go_wp2
  rw [rounds_succ]; go_wp2
  go_region
  go_wp2
  rw [rounds_succ]; go_wp2
  go_region
  go_wp2
  rw [rounds_succ]; go_wp2
  go_region
  go_wp2
  rw [rounds_succ]; go_wp2
  refine bodyPost_ret (v := .agg #[.int .u64 (a0 &&& neg64 b0 : Nat), .int .u64 (a1 &&& neg64 b1 : Nat), .int .u64 (a2 &&& neg64 b2 : Nat), .int .u64 (a3 &&& neg64 b3 : Nat)]) (by simp [results, Tryd.results23, go_sem]) rfl ⟨rfl, ?_⟩
  go_grown

end Go.Proofs.YtnlgnpdajblfnaaDoor
