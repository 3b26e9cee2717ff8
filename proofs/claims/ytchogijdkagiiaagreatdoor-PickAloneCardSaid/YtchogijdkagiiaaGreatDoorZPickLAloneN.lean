/- PickAlone of layer 14, as a walk over the contracts. Written by gen/gen_pick.py. -/
import Derived.Deep.RegionHeld3
import Derived.Test.YtchogijdkagiiaaGreatDoorMg08
import Derived.Test.YtchogijdkagiiaaGreatDoorMg05
import Derived.Test.YtchogijdkagiiaaGreatDoorMg04
namespace Go.Proofs.YtchogijdkagiiaaGreatDoor
open Go.RowKit

set_option maxRecDepth 100000 in
set_option maxHeartbeats 8000000 in
theorem pickAlone_no (H : PickOk) (A : Option Addr) (n c : Nat) (_g : Gr) (A2 : Option Addr) (n2 c2 : Nat) (_use : List Int) (A3 : Option Addr) (n3 c3 : Nat) (l : Tb) (x : Wn) (t u vp vd : Int) (w : World) (hl : TAsk w A3 n3 c3 l) (hxs : SAsk x.spec) (hxi : I64 x.id) (hsm : decide (SmallS n n2 n3 l 1) = false) (hG : Glob w) : Calls Tryz.prog 7 #[.slice A n c, .slice A2 n2 c2, .slice A3 n3 c3, .agg #[.int .i64 x.id, .int .i64 x.spec.nodes, .int .i64 x.spec.cores, .int .i64 x.spec.gpus, .string x.spec.tag, .bool x.spec.whole, .int .i64 x.spec.long, .int .i64 x.spec.prio], .int .i64 t, .int .i64 u, .int .u8 vp, .int .u8 vd] w fun e w' => e = .returned (.bool true) ∧ Below w.heap.size w w' := by
  have hba : Below w.heap.size w (w.alloc (.cells #[.int .i64 x.id, .int .i64 x.spec.nodes, .int .i64 x.spec.cores, .int .i64 x.spec.gpus, .string x.spec.tag, .bool x.spec.whole, .int .i64 x.spec.long, .int .i64 x.spec.prio] 43)) := (Below.refl _ _).alloc (Nat.le_refl _) _
  have HB := Lib.hid hba
  have HG := Lib.hid (hG.next hba)
  have TA := Lib.hid (hl.next hba)
  have BW : Hid (BoxW (w.alloc (.cells #[.int .i64 x.id, .int .i64 x.spec.nodes, .int .i64 x.spec.cores, .int .i64 x.spec.gpus, .string x.spec.tag, .bool x.spec.whole, .int .i64 x.spec.long, .int .i64 x.spec.prio] 43)) w.heap.size x) := Lib.hid (boxW_new w x)
  have HXS := Lib.hid hxs
  have HXI := Lib.hid hxi
  have HSM := Lib.hid hsm
  clear hba hG hl hxs hxi hsm
  go_enter Tryz.func7, Tryz.ntmps7
  go_wp2_with fail
  refine (awake14_any H _ HG.out).mono ?_
  rintro e w1 ⟨rfl, hb⟩
  replace HB := Lib.hid (HB.out.trans (hb.mono HB.out.size))
  replace HG := Lib.hid (HG.out.next hb)
  replace TA := Lib.hid (TA.out.next hb)
  replace BW := Lib.hid (BW.out.next hb)
  clear hb
  have q0 := BW.out.c0
  have q1 := BW.out.c1
  have q2 := BW.out.c2
  have q3 := BW.out.c3
  have q4 := BW.out.c4
  have q5 := BW.out.c5
  have q6 := BW.out.c6
  have q7 := BW.out.c7
  have hb := Below.alloc (Below.refl w1.heap.size w1) (Nat.le_refl _) (.cells #[.int .i64 x.id, .int .i64 x.spec.nodes, .int .i64 x.spec.cores, .int .i64 x.spec.gpus, .string x.spec.tag, .bool x.spec.whole, .int .i64 x.spec.long, .int .i64 x.spec.prio] 43)
  have WA1q := Lib.hid (show WnAsk (w1.alloc (.cells #[.int .i64 x.id, .int .i64 x.spec.nodes, .int .i64 x.spec.cores, .int .i64 x.spec.gpus, .string x.spec.tag, .bool x.spec.whole, .int .i64 x.spec.long, .int .i64 x.spec.prio] 43)) _ 1 1 [x] from wn_lit1 w1 x HXS.out HXI.out)
  replace HB := Lib.hid (HB.out.trans (hb.mono HB.out.size))
  replace HG := Lib.hid (HG.out.next hb)
  replace TA := Lib.hid (TA.out.next hb)
  replace BW := Lib.hid (BW.out.next hb)
  clear hb
  have WA1 := WA1q
  clear WA1q
  go_wp2_with fail
  refine (smallP_b TA.out HSM.out).mono ?_
  rintro e w2 ⟨rfl, hb⟩
  replace HB := Lib.hid (HB.out.trans (hb.mono HB.out.size))
  replace HG := Lib.hid (HG.out.next hb)
  replace TA := Lib.hid (TA.out.next hb)
  replace BW := Lib.hid (BW.out.next hb)
  replace WA1 := Lib.hid (WA1.out.next hb)
  clear hb
  clear q0 q1 q2 q3 q4 q5 q6 q7
  go_wp2
  go_ret
  exact ⟨rfl, HB.out⟩

end Go.Proofs.YtchogijdkagiiaaGreatDoor
