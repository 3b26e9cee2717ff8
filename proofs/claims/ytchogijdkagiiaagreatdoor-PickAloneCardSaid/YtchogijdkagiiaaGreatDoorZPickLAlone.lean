/- PickAlone of layer 14, as a walk over the contracts. Written by gen/gen_pick.py. -/
import Derived.Deep.RegionHeld3
import Derived.Test.YtchogijdkagiiaaGreatDoorMg08
import Derived.Test.YtchogijdkagiiaaGreatDoorZPickLAloneN
import Derived.Test.YtchogijdkagiiaaGreatDoorZPickLAlone1
import Derived.Test.YtchogijdkagiiaaGreatDoorZPickLAlone2
import Derived.Test.YtchogijdkagiiaaGreatDoorZPickLAlone3z
import Derived.Test.YtchogijdkagiiaaGreatDoorZPickLAlone3p
import Derived.Test.YtchogijdkagiiaaGreatDoorMg05
import Derived.Test.YtchogijdkagiiaaGreatDoorMg04
namespace Go.Proofs.YtchogijdkagiiaaGreatDoor
open Go.RowKit

theorem pickAlone_walk (H : PickOk) (H3 : SlotOk) (HD : HeldOk) (HSP : SpecOk) (A : Option Addr) (n c : Nat) (g : Gr) (A2 : Option Addr) (n2 c2 : Nat) (use : List Int) (A3 : Option Addr) (n3 c3 : Nat) (l : Tb) (x : Wn) (t u vp vd : Int) (w : World) (hr : RG w w.heap.size A n g) (hnil : A = none → c = 0) (hnc : n ≤ c) (_hn : n ≤ maxLen) (hr2 : RI w w.heap.size A2 n2 use) (hj2 : ∀ x ∈ use, I64 x) (hnil2 : A2 = none → c2 = 0) (hnc2 : n2 ≤ c2) (_hn2 : n2 ≤ maxLen) (hl : TAsk w A3 n3 c3 l) (hxs : SAsk x.spec) (hxi : I64 x.id) (ht : I64 t) (hv : I64 u) (hvp : 0 ≤ vp ∧ vp < 256) (hvd : 0 ≤ vd ∧ vd < 256) (hG : Glob w) : Calls Tryz.prog 7 #[.slice A n c, .slice A2 n2 c2, .slice A3 n3 c3, .agg #[.int .i64 x.id, .int .i64 x.spec.nodes, .int .i64 x.spec.cores, .int .i64 x.spec.gpus, .string x.spec.tag, .bool x.spec.whole, .int .i64 x.spec.long, .int .i64 x.spec.prio], .int .i64 t, .int .i64 u, .int .u8 vp, .int .u8 vd] w fun e w' => e = .returned (.bool true) ∧ Below w.heap.size w w' := by
  cases hsm : decide (SmallS n n2 n3 l 1) with
  | false => exact pickAlone_no H A n c g A2 n2 c2 use A3 n3 c3 l x t u vp vd w hl hxs hxi hsm hG
  | true =>
    have h := of_decide_eq_true hsm
    unfold SmallS at h
    have hp3 : Int.tmod vp 3 = 0 ∨ Int.tmod vp 3 = 1 ∨ Int.tmod vp 3 = 2 := by rw [Int.tmod_eq_emod_of_nonneg hvp.1]; omega
    have hd9 : 0 ≤ Int.tmod vd 9 ∧ Int.tmod vd 9 ≤ 8 := by rw [Int.tmod_eq_emod_of_nonneg hvd.1]; omega
    have hga : GAsk w A n c g := ⟨hr, hnil, hnc, by omega⟩
    have hua : LAsk w A2 n2 c2 use := ⟨hr2, hnil2, hnc2, by omega, hj2⟩
    have hfa := short_fewS h.2.2.2.1
    rcases hp3 with hp | hp | hp
    · exact pickAlone_1 H H3 HD HSP hga hua hl hfa hxs hxi ht hv hvp.1 hvp.2 hvd.1 hvd.2 hp rfl hd9.1 hd9.2 hsm hG
    · exact pickAlone_2 H H3 HD HSP hga hua hl hfa hxs hxi ht hv hvp.1 hvp.2 hvd.1 hvd.2 hp rfl hd9.1 hd9.2 hsm hG
    · by_cases hz : Int.tmod vd 9 = 0
      · exact pickAlone_3z H H3 HD HSP hga hua hl hfa hxs hxi ht hv hvp.1 hvp.2 hvd.1 hvd.2 hp hz (Int.le_refl 0) (by omega) hsm hG
      · exact pickAlone_3p H H3 HD HSP hga hua hl hfa hxs hxi ht hv hvp.1 hvp.2 hvd.1 hvd.2 hp rfl hd9.1 hd9.2 (by omega) hsm hG

end Go.Proofs.YtchogijdkagiiaaGreatDoor
