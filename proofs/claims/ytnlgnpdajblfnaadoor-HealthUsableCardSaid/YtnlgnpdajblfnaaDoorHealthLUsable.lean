/- The statement HealthUsable, as a walk over the contracts: of any list of things and list of numbers the call returns true. -/
import Derived.Test.YtnlgnpdajblfnaaDoorHealthAwake
namespace Go.Proofs.YtnlgnpdajblfnaaDoor
open Go.RowKit

/-- is one of the first j to be drained? -/
def someB (l h : List Int) (j : Nat) : Bool := (l.take j).any fun y => hAt h y.toNat == 1
theorem someB_succ {l h : List Int} {j : Nat} (hj : j < l.length) : someB l h (j + 1) = (someB l h j || hAt h (l.getD j 0).toNat == 1) := by
  unfold someB
  rw [List.take_succ_eq_append_getElem hj, List.any_append, List.getD, List.getElem?_eq_getElem hj]
  simp
theorem someB_all {l h : List Int} (e : ∃ y ∈ l, hAt h y.toNat = 1) : someB l h l.length = true := by
  unfold someB
  rw [List.take_length, List.any_eq_true]
  obtain ⟨y, h1, h2⟩ := e
  exact ⟨y, h1, by rw [h2]; rfl⟩
theorem getD_mem' {l : List Int} {j : Nat} (hj : j < l.length) : l.getD j 0 ∈ l := by rw [List.getD, List.getElem?_eq_getElem hj]; exact List.getElem_mem hj
/-- what works and may not be used -/
theorem idle_facts {g : Gr} {h : List Int} (hr : rightH g h = true) {i : Nat} (hi : i < (lessL (belowL g h 1) (belowL g h 0)).length) :
    ∃ x : Nat, (lessL (belowL g h 1) (belowL g h 0)).getD i 0 = x ∧ x < g.length ∧ (∃ y ∈ aboveL g (x : Int), hAt h y.toNat = 1) ∧ ∀ y ∈ aboveL g (x : Int), ∃ q : Nat, q < g.length ∧ y = q := by
  have hm := getD_mem' hi
  rw [mem_lessL (belowL_right 1) (belowL_right 0), mem_below hr, mem_below hr] at hm
  obtain ⟨⟨x, h1, h2, h3⟩, hno⟩ := hm
  have hrg := (rightH_is hr).1
  obtain ⟨j, hj, hd⟩ := drained hr h1 h2 (fun h0 => hno ⟨x, h1, h0, h3⟩)
  refine ⟨x, h3, h1, ⟨(j : Int), ?_, by rw [Int.toNat_natCast]; exact hd⟩, fun y hy => ?_⟩
  · rw [aboveL_is hrg h1, mem_numsF_nat]
    exact ⟨by have := over_le hj; omega, hj⟩
  · rw [aboveL_is hrg h1] at hy
    obtain ⟨q, hq, _, rfl⟩ := mem_numsF.1 hy
    exact ⟨q, by omega, rfl⟩

set_option maxRecDepth 100000 in
set_option maxHeartbeats 4000000 in
theorem healthUsable_long (H : HealthOk) (A : Option Addr) (n c : Nat) (A2 : Option Addr) (n2 c2 : Nat) (w : World) (h60 : 60 < n) (hn : n ≤ maxLen) (hG : Glob w) :
    Calls Tryd.prog 3 #[.slice A n c, .slice A2 n2 c2] w fun e w' => e = .returned (.bool true) ∧ Below w.heap.size w w' := by
  unfold maxLen at hn
  have HG := Lib.hid hG
  clear hG
  go_enter Tryd.func3, Tryd.ntmps3
  go_wp2_with fail
  refine (healthAwake_any H _ HG.out).mono ?_
  rintro e w1 ⟨rfl, hb1⟩
  have HB1 := Lib.hid hb1
  clear hb1
  go_wp2
  go_ret
  exact ⟨rfl, HB1.out⟩
set_option maxRecDepth 100000 in
set_option maxHeartbeats 4000000 in
theorem healthUsable_none (H : HealthOk) (A : Option Addr) (n c : Nat) (A2 : Option Addr) (n2 c2 : Nat) (g : Gr) (h : List Int) (w : World) (hg : GAsk w A n c g) (h60 : n ≤ 60) (hl : WAsk w A2 n2 c2 h) (hG : Glob w) (hr : rightH g h = false) :
    Calls Tryd.prog 3 #[.slice A n c, .slice A2 n2 c2] w fun e w' => e = .returned (.bool true) ∧ Below w.heap.size w w' := by
  have FG := Lib.hid hg
  have HG := Lib.hid hG
  have FL := Lib.hid hl
  have HR := Lib.hid hr
  have HB := Lib.hid (Below.refl w.heap.size w)
  have h60d : decide (60 < (n : Int)) = false := by simp; omega
  clear hg hl hG hr
  go_enter Tryd.func3, Tryd.ntmps3
  go_wp2_with fail
  refine (healthAwake_any H _ HG.out).mono ?_
  rintro e w1 ⟨rfl, hb1⟩
  have hBz := HB.out.size
  have HB2 := Lib.hid (HB.out.trans (hb1.mono hBz))
  clear HB hBz
  have HB := HB2
  clear HB2
  have HG2 := Lib.hid (HG.out.next hb1)
  clear HG
  have HG := HG2
  clear HG2
  have FG2 := Lib.hid (FG.out.next hb1)
  clear FG
  have FG := FG2
  clear FG2
  have FL2 := Lib.hid (FL.out.next hb1)
  clear FL
  have FL := FL2
  clear FL2
  clear hb1
  go_wp2_with fail
  refine (calls_bool (H.right _ _ _ _ _ _ _ _ _ FG.out FL.out HG.out) HR.out).mono ?_
  rintro e w2 ⟨rfl, hb2⟩
  have hBz := HB.out.size
  have HB2 := Lib.hid (HB.out.trans (hb2.mono hBz))
  clear HB hBz
  have HB := HB2
  clear HB2
  have HG2 := Lib.hid (HG.out.next hb2)
  clear HG
  have HG := HG2
  clear HG2
  have FG2 := Lib.hid (FG.out.next hb2)
  clear FG
  have FG := FG2
  clear FG2
  have FL2 := Lib.hid (FL.out.next hb2)
  clear FL
  have FL := FL2
  clear FL2
  clear hb2
  go_wp2
  go_ret
  exact ⟨rfl, HB.out⟩

set_option maxRecDepth 100000 in
set_option maxHeartbeats 4000000 in
theorem healthUsable_yes (H : HealthOk) (HGr : GraphOk) (A : Option Addr) (n c : Nat) (A2 : Option Addr) (n2 c2 : Nat) (g : Gr) (h : List Int) (w : World) (hg : GAsk w A n c g) (h60 : n ≤ 60) (hl : LAsk w A2 n2 c2 h) (hG : Glob w) (hr : rightH g h = true) (hnn : n2 = n) (U W L : List Int) (hu : belowL g h 0 = U) (hw : belowL g h 1 = W) (hui : ∀ x ∈ U, I64 x) (hwi : ∀ x ∈ W, I64 x) (lu : U.length ≤ 256) (lw : W.length ≤ 256)
    (hp : partB U W = true) (huu : wholeL g U = U) (hww : wholeL g W = W) (hll : lessL W U = L) (hL : L.length ≤ 256)
    (hf : ∀ i, i < L.length → ∃ x : Nat, L.getD i 0 = x ∧ x < g.length ∧ (∃ y ∈ aboveL g (x : Int), hAt h y.toNat = 1) ∧ ∀ y ∈ aboveL g (x : Int), ∃ q : Nat, q < g.length ∧ y = q) :
    Calls Tryd.prog 3 #[.slice A n c, .slice A2 n2 c2] w fun e w' => e = .returned (.bool true) ∧ Below w.heap.size w w' := by
  have FG := Lib.hid hg
  have HG := Lib.hid hG
  have FL := Lib.hid hl
  have HR := Lib.hid hr
  have HB := Lib.hid (Below.refl w.heap.size w)
  have h60d : decide (60 < (n : Int)) = false := by simp; omega
  have HU := Lib.hid hu
  have HW := Lib.hid hw
  have HUI := Lib.hid hui
  have HWI := Lib.hid hwi
  have HP := Lib.hid hp
  have HUU := Lib.hid huu
  have HWW := Lib.hid hww
  have HLL := Lib.hid hll
  have HF := Lib.hid hf
  have HNN := Lib.hid hnn
  clear hg hl hG hr hu hw hui hwi hp huu hww hll hf hnn
  go_enter Tryd.func3, Tryd.ntmps3
  go_wp2_with fail
  refine (healthAwake_any H _ HG.out).mono ?_
  rintro e w1 ⟨rfl, hb1⟩
  have hBz := HB.out.size
  have HB2 := Lib.hid (HB.out.trans (hb1.mono hBz))
  clear HB hBz
  have HB := HB2
  clear HB2
  have HG2 := Lib.hid (HG.out.next hb1)
  clear HG
  have HG := HG2
  clear HG2
  have FG2 := Lib.hid (FG.out.next hb1)
  clear FG
  have FG := FG2
  clear FG2
  have FL2 := Lib.hid (FL.out.next hb1)
  clear FL
  have FL := FL2
  clear FL2
  clear hb1
  go_wp2_with fail
  refine (calls_bool (H.right _ _ _ _ _ _ _ _ _ FG.out FL.out.wide HG.out) HR.out).mono ?_
  rintro e w2 ⟨rfl, hb2⟩
  have hBz := HB.out.size
  have HB2 := Lib.hid (HB.out.trans (hb2.mono hBz))
  clear HB hBz
  have HB := HB2
  clear HB2
  have HG2 := Lib.hid (HG.out.next hb2)
  clear HG
  have HG := HG2
  clear HG2
  have FG2 := Lib.hid (FG.out.next hb2)
  clear FG
  have FG := FG2
  clear FG2
  have FL2 := Lib.hid (FL.out.next hb2)
  clear FL
  have FL := FL2
  clear FL2
  clear hb2
  go_wp2_with fail
  refine (calls_ipost (H.usable _ _ _ _ _ _ _ _ _ FG.out FL.out HG.out) HU.out).mono ?_
  rintro e w3 ⟨⟨A3, c3, rfl, hr3, hnil3, hc3⟩, hb3⟩
  have hBz := HB.out.size
  have HB2 := Lib.hid (HB.out.trans (hb3.mono hBz))
  clear HB hBz
  have HB := HB2
  clear HB2
  have HG2 := Lib.hid (HG.out.next hb3)
  clear HG
  have HG := HG2
  clear HG2
  have FG2 := Lib.hid (FG.out.next hb3)
  clear FG
  have FG := FG2
  clear FG2
  have FL2 := Lib.hid (FL.out.next hb3)
  clear FL
  have FL := FL2
  clear FL2
  clear hb3
  have F1 := Lib.hid hr3
  have F1c := Lib.hid hc3
  have F1z := Lib.hid hnil3
  clear hr3 hc3 hnil3
  have F1L := Lib.hid (LAsk.mk F1.out F1z.out F1c.out (by omega) (HUI.out))
  clear F1c F1z
  clear F1
  go_wp2_with fail
  refine (calls_ipost (H.works _ _ _ _ _ _ _ _ _ FG.out FL.out HG.out) HW.out).mono ?_
  rintro e w4 ⟨⟨A4, c4, rfl, hr4, hnil4, hc4⟩, hb4⟩
  have hBz := HB.out.size
  have HB2 := Lib.hid (HB.out.trans (hb4.mono hBz))
  clear HB hBz
  have HB := HB2
  clear HB2
  have HG2 := Lib.hid (HG.out.next hb4)
  clear HG
  have HG := HG2
  clear HG2
  have FG2 := Lib.hid (FG.out.next hb4)
  clear FG
  have FG := FG2
  clear FG2
  have FL2 := Lib.hid (FL.out.next hb4)
  clear FL
  have FL := FL2
  clear FL2
  have F1L2 := Lib.hid (F1L.out.next hb4)
  clear F1L
  have F1L := F1L2
  clear F1L2
  clear hb4
  have F2 := Lib.hid hr4
  have F2c := Lib.hid hc4
  have F2z := Lib.hid hnil4
  clear hr4 hc4 hnil4
  have F2L := Lib.hid (LAsk.mk F2.out F2z.out F2c.out (by omega) (HWI.out))
  clear F2c F2z
  clear F2
  go_wp2_with fail
  refine (s_part F1L.out.reads F2L.out.reads (by unfold maxLen; omega) (by unfold maxLen; omega) HP.out).mono ?_
  rintro e w5 ⟨rfl, hb5⟩
  have hBz := HB.out.size
  have HB2 := Lib.hid (HB.out.trans (hb5.mono hBz))
  clear HB hBz
  have HB := HB2
  clear HB2
  have HG2 := Lib.hid (HG.out.next hb5)
  clear HG
  have HG := HG2
  clear HG2
  have FG2 := Lib.hid (FG.out.next hb5)
  clear FG
  have FG := FG2
  clear FG2
  have FL2 := Lib.hid (FL.out.next hb5)
  clear FL
  have FL := FL2
  clear FL2
  have F1L2 := Lib.hid (F1L.out.next hb5)
  clear F1L
  have F1L := F1L2
  clear F1L2
  have F2L2 := Lib.hid (F2L.out.next hb5)
  clear F2L
  have F2L := F2L2
  clear F2L2
  clear hb5
  go_wp2_with fail
  refine (calls_ipost (HGr.whole _ _ _ _ _ _ _ _ _ FG.out F1L.out HG.out) HUU.out).mono ?_
  rintro e w6 ⟨⟨A6, c6, rfl, hr6, hnil6, hc6⟩, hb6⟩
  have hBz := HB.out.size
  have HB2 := Lib.hid (HB.out.trans (hb6.mono hBz))
  clear HB hBz
  have HB := HB2
  clear HB2
  have HG2 := Lib.hid (HG.out.next hb6)
  clear HG
  have HG := HG2
  clear HG2
  have FG2 := Lib.hid (FG.out.next hb6)
  clear FG
  have FG := FG2
  clear FG2
  have FL2 := Lib.hid (FL.out.next hb6)
  clear FL
  have FL := FL2
  clear FL2
  have F1L2 := Lib.hid (F1L.out.next hb6)
  clear F1L
  have F1L := F1L2
  clear F1L2
  have F2L2 := Lib.hid (F2L.out.next hb6)
  clear F2L
  have F2L := F2L2
  clear F2L2
  clear hb6
  have F3 := Lib.hid hr6
  have F3c := Lib.hid hc6
  have F3z := Lib.hid hnil6
  clear hr6 hc6 hnil6
  go_wp2_with fail
  refine (ri_same F3.out F1L.out.reads (by unfold maxLen; omega) (by unfold maxLen; omega) (same_self _)).mono ?_
  rintro e w7 ⟨rfl, hb7⟩
  have hBz := HB.out.size
  have HB2 := Lib.hid (HB.out.trans (hb7.mono hBz))
  clear HB hBz
  have HB := HB2
  clear HB2
  have HG2 := Lib.hid (HG.out.next hb7)
  clear HG
  have HG := HG2
  clear HG2
  have FG2 := Lib.hid (FG.out.next hb7)
  clear FG
  have FG := FG2
  clear FG2
  have FL2 := Lib.hid (FL.out.next hb7)
  clear FL
  have FL := FL2
  clear FL2
  have F1L2 := Lib.hid (F1L.out.next hb7)
  clear F1L
  have F1L := F1L2
  clear F1L2
  have F2L2 := Lib.hid (F2L.out.next hb7)
  clear F2L
  have F2L := F2L2
  clear F2L2
  have F32 := Lib.hid (F3.out.next hb7)
  clear F3
  have F3 := F32
  clear F32
  clear hb7
  clear F3
  clear F3c F3z
  go_wp2_with fail
  refine (calls_ipost (HGr.whole _ _ _ _ _ _ _ _ _ FG.out F2L.out HG.out) HWW.out).mono ?_
  rintro e w8 ⟨⟨A8, c8, rfl, hr8, hnil8, hc8⟩, hb8⟩
  have hBz := HB.out.size
  have HB2 := Lib.hid (HB.out.trans (hb8.mono hBz))
  clear HB hBz
  have HB := HB2
  clear HB2
  have HG2 := Lib.hid (HG.out.next hb8)
  clear HG
  have HG := HG2
  clear HG2
  have FG2 := Lib.hid (FG.out.next hb8)
  clear FG
  have FG := FG2
  clear FG2
  have FL2 := Lib.hid (FL.out.next hb8)
  clear FL
  have FL := FL2
  clear FL2
  have F1L2 := Lib.hid (F1L.out.next hb8)
  clear F1L
  have F1L := F1L2
  clear F1L2
  have F2L2 := Lib.hid (F2L.out.next hb8)
  clear F2L
  have F2L := F2L2
  clear F2L2
  clear hb8
  have F4 := Lib.hid hr8
  have F4c := Lib.hid hc8
  have F4z := Lib.hid hnil8
  clear hr8 hc8 hnil8
  go_wp2_with fail
  refine (ri_same F4.out F2L.out.reads (by unfold maxLen; omega) (by unfold maxLen; omega) (same_self _)).mono ?_
  rintro e w9 ⟨rfl, hb9⟩
  have hBz := HB.out.size
  have HB2 := Lib.hid (HB.out.trans (hb9.mono hBz))
  clear HB hBz
  have HB := HB2
  clear HB2
  have HG2 := Lib.hid (HG.out.next hb9)
  clear HG
  have HG := HG2
  clear HG2
  have FG2 := Lib.hid (FG.out.next hb9)
  clear FG
  have FG := FG2
  clear FG2
  have FL2 := Lib.hid (FL.out.next hb9)
  clear FL
  have FL := FL2
  clear FL2
  have F1L2 := Lib.hid (F1L.out.next hb9)
  clear F1L
  have F1L := F1L2
  clear F1L2
  have F2L2 := Lib.hid (F2L.out.next hb9)
  clear F2L
  have F2L := F2L2
  clear F2L2
  have F42 := Lib.hid (F4.out.next hb9)
  clear F4
  have F4 := F42
  clear F42
  clear hb9
  clear F4
  clear F4c F4z
  go_wp2_with fail
  refine (calls_ipost (s_less F2L.out.reads F1L.out.reads (by unfold maxLen; omega) (by unfold maxLen; omega) HG.out) HLL.out).mono ?_
  rintro e w10 ⟨⟨A10, c10, rfl, hr10, hnil10, hc10⟩, hb10⟩
  have hBz := HB.out.size
  have HB2 := Lib.hid (HB.out.trans (hb10.mono hBz))
  clear HB hBz
  have HB := HB2
  clear HB2
  have HG2 := Lib.hid (HG.out.next hb10)
  clear HG
  have HG := HG2
  clear HG2
  have FG2 := Lib.hid (FG.out.next hb10)
  clear FG
  have FG := FG2
  clear FG2
  have FL2 := Lib.hid (FL.out.next hb10)
  clear FL
  have FL := FL2
  clear FL2
  have F1L2 := Lib.hid (F1L.out.next hb10)
  clear F1L
  have F1L := F1L2
  clear F1L2
  have F2L2 := Lib.hid (F2L.out.next hb10)
  clear F2L
  have F2L := F2L2
  clear F2L2
  clear hb10
  have FI := Lib.hid hr10
  have FIc := Lib.hid hc10
  have FIz := Lib.hid hnil10
  clear hr10 hc10 hnil10
  clear F1L
  clear F2L
  clear FIc FIz
  have HB0 := HB
  clear HB
  go_wp2
  go_loopw [8] (fun i wr => ∃ k : Nat, k ≤ L.length ∧ i = .int .i64 k ∧ Below w10.heap.size w10 wr) (fun i _ => L.length - (intOf i).toNat)
  case atStart => exact ⟨0, Nat.zero_le _, rfl, Below.refl _ _⟩
  case round =>
    obtain ⟨k, hk, rfl, hb⟩ := hrel
    have HB := Lib.hid hb
    have FGr := Lib.hid (FG.out.next hb)
    have HGr' := Lib.hid (HG.out.next hb)
    have FLr := Lib.hid (FL.out.next hb)
    have FIr := Lib.hid (FI.out.next hb)
    clear hb
    by_cases hlt : k < L.length
    · obtain ⟨x, hx1, hx2, hx3, hx4⟩ := HF.out k hlt
      obtain ⟨b, off, rfl, _, hcx⟩ := FIr.out.one hlt
      rw [hx1] at hcx
      have hx300 : x ≤ 300 := by have := FGr.out.few; have := FGr.out.reads.len; omega
      obtain ⟨AL, hal⟩ : ∃ l, aboveL g (x : Int) = l := ⟨_, rfl⟩
      have hal256 := aboveL_len (g := g) (x : Int)
      rw [hal] at hx3 hx4 hal256
      have HAL := Lib.hid hal
      have HX4 := Lib.hid hx4
      have HSA := Lib.hid (someB_all hx3)
      clear hx1 hx2 hx3 hx4 hal
      go_wp2_with fail
      refine (calls_ipost (HGr.above _ _ _ _ (x : Int) _ FGr.out (i64_small hx300) HGr'.out) HAL.out).mono ?_
      rintro e w1 ⟨⟨A1, c1, rfl, hr1, hnil1, hc1⟩, hb1⟩
      have hBz := HB.out.size
      have HB2 := Lib.hid (HB.out.trans (hb1.mono hBz))
      clear HB hBz
      have HB := HB2
      clear HB2
      have HGr2' := Lib.hid (HGr'.out.next hb1)
      clear HGr'
      have HGr' := HGr2'
      clear HGr2'
      have FGr2 := Lib.hid (FGr.out.next hb1)
      clear FGr
      have FGr := FGr2
      clear FGr2
      have FLr2 := Lib.hid (FLr.out.next hb1)
      clear FLr
      have FLr := FLr2
      clear FLr2
      clear hb1
      have FA := Lib.hid hr1
      have FAc := Lib.hid hc1
      have FAz := Lib.hid hnil1
      clear hr1 hc1 hnil1
      clear FAc FAz hcx
      have HB1 := HB
      clear HB
      go_wp2
      go_loop [10, 11] (fun s i => ∃ j : Nat, j ≤ AL.length ∧ i = .int .i64 j ∧ s = .bool (someB AL h j)) (fun _ i => AL.length - (intOf i).toNat)
      case atStart => exact ⟨0, Nat.zero_le _, rfl, rfl⟩
      case round =>
        obtain ⟨j, hj, rfl, rfl⟩ := hrel
        by_cases hltj : j < AL.length
        · have hss := Lib.hid (someB_succ (h := h) hltj)
          obtain ⟨q, hq, hqe⟩ := HX4.out _ (getD_mem' hltj)
          have hqn2 : q < n2 := by have := FGr.out.reads.len; have := HNN.out; omega
          obtain ⟨ba, oa, rfl, _, hca⟩ := FA.out.one hltj
          obtain ⟨bh, oh, rfl, _, hch⟩ := FLr.out.reads.one hqn2
          rw [hqe] at hca hss
          rw [Int.toNat_natCast] at hss
          have hv0 : h.getD q 0 = hAt h q := rfl
          rw [hv0] at hch
          clear hv0 hq hqe
          generalize hAt h q = v at *
          generalize hsb : someB AL h j = sb at *
          clear hsb
          cases sb with
          | true =>
            have e1 : Hid (someB AL h (j + 1) = true) := Lib.hid (by rw [hss.out]; rfl)
            clear hss hca hch
            go_wp2
            go_round
            case rel => exact ⟨j + 1, by omega, by go_num, by rw [e1.out]⟩
            case measure => simp [intOf]; omega
          | false =>
            by_cases hv : v = 1
            · have e1 : Hid (someB AL h (j + 1) = true) := Lib.hid (by rw [hss.out, hv]; rfl)
              subst hv
              clear hss
              go_wp2
              go_round
              case rel => exact ⟨j + 1, by omega, by go_num, by rw [e1.out]⟩
              case measure => simp [intOf]; omega
            · have hvd : (v == 1) = false := by simpa using hv
              have e1 : Hid (someB AL h (j + 1) = false) := Lib.hid (by rw [hss.out, hvd]; rfl)
              clear hss hv
              go_wp2
              go_round
              case rel => exact ⟨j + 1, by omega, by go_num, by rw [e1.out]⟩
              case measure => simp [intOf]; omega
        · have hjl : j = AL.length := by omega
          have e1 := HSA.out
          rw [← hjl] at e1
          generalize hsb : someB AL h j = sb at *
          clear hsb
          subst e1
          clear hjl
          go_wp2
          go_roundw
          case rel => exact ⟨k + 1, by omega, by go_num, HB1.out⟩
          case measure => simp [intOf]; omega
    · have HBB := Lib.hid (HB0.out.trans (HB.out.mono HB0.out.size))
      go_wp2
      go_ret
      exact ⟨rfl, HBB.out⟩

theorem healthUsable_walk (H : HealthOk) (HGr : GraphOk) (A : Option Addr) (n c : Nat) (A2 : Option Addr) (n2 c2 : Nat) (g : Gr) (h : List Int) (w : World) (hr : RG w w.heap.size A n g) (hnil : A = none → c = 0) (hnc : n ≤ c) (hn : n ≤ maxLen) (hr2 : RI w w.heap.size A2 n2 h) (hj : ∀ x ∈ h, I64 x) (hnil2 : A2 = none → c2 = 0) (hnc2 : n2 ≤ c2) (hn2 : n2 ≤ maxLen) (hG : Glob w) :
    Calls Tryd.prog 3 #[.slice A n c, .slice A2 n2 c2] w fun e w' => e = .returned (.bool true) ∧ Below w.heap.size w w' := by
  by_cases h60 : 60 < n
  · exact healthUsable_long H A n c A2 n2 c2 w h60 hn hG
  have hg : GAsk w A n c g := ⟨hr, hnil, hnc, by omega⟩
  cases hrh : rightH g h with
  | false => exact healthUsable_none H A n c A2 n2 c2 g h w hg (by omega) ⟨hr2, hnil2, hnc2, hn2, hj⟩ hG hrh
  | true =>
    have hl := (rightH_is hrh).2.1
    have hlen := hr.len
    have hnn : n2 = n := by rw [← hr2.1, hl, hlen]
    have hL : LAsk w A2 n2 c2 h := ⟨hr2, hnil2, hnc2, by omega, hj⟩
    exact healthUsable_yes H HGr A n c A2 n2 c2 g h w hg (by omega) hL hG hrh hnn _ _ _ rfl rfl (belowL_i64 0) (belowL_i64 1) (belowL_len 0) (belowL_len 1) ((part_iff (belowL_right 0) (belowL_right 1)).2 (below_sub hrh (by omega))) (below_whole hrh 0) (below_whole hrh 1) rfl (length_whichL 2 _ _) (fun i hi => idle_facts hrh hi)

end Go.Proofs.YtnlgnpdajblfnaaDoor
