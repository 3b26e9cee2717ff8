/- The statement HealthSets, as a walk over the contracts: of any list of things, list of numbers, a number and a mark the call returns true. -/
import Derived.Test.YtnlgnpdajblfnaaDoorHealthAwake
namespace Go.Proofs.YtnlgnpdajblfnaaDoor
open Go.RowKit

set_option maxRecDepth 100000 in
set_option maxHeartbeats 4000000 in
theorem healthSets_long (H : HealthOk) (A : Option Addr) (n c : Nat) (A2 : Option Addr) (n2 c2 : Nat) (k a : Int) (w : World) (h60 : 60 < n) (hn : n ≤ maxLen) (hG : Glob w) :
    Calls Tryd.prog 4 #[.slice A n c, .slice A2 n2 c2, .int .i64 k, .int .u8 a] w fun e w' => e = .returned (.bool true) ∧ Below w.heap.size w w' := by
  unfold maxLen at hn
  have HG := Lib.hid hG
  clear hG
  go_enter Tryd.func4, Tryd.ntmps4
  go_wp2_with fail
  refine (healthAwake_any H _ HG.out).mono ?_
  rintro e w1 ⟨rfl, hb1⟩
  have HB1 := Lib.hid hb1
  clear hb1
  go_wp2
  go_ret
  exact ⟨rfl, HB1.out⟩
set_option maxRecDepth 100000 in
set_option maxHeartbeats 4000000 in
theorem healthSets_none (H : HealthOk) (A : Option Addr) (n c : Nat) (A2 : Option Addr) (n2 c2 : Nat) (g : Gr) (h : List Int) (k a : Int) (w : World) (hg : GAsk w A n c g) (h60 : n ≤ 60) (hl : WAsk w A2 n2 c2 h) (hG : Glob w) (hr : rightH g h = false) :
    Calls Tryd.prog 4 #[.slice A n c, .slice A2 n2 c2, .int .i64 k, .int .u8 a] w fun e w' => e = .returned (.bool true) ∧ Below w.heap.size w w' := by
  have FG := Lib.hid hg
  have HG := Lib.hid hG
  have FL := Lib.hid hl
  have HR := Lib.hid hr
  have HB := Lib.hid (Below.refl w.heap.size w)
  have h60d : decide (60 < (n : Int)) = false := by simp; omega
  clear hg hl hG hr
  go_enter Tryd.func4, Tryd.ntmps4
  go_wp2_with fail
  refine (healthAwake_any H _ HG.out).mono ?_
  rintro e w1 ⟨rfl, hb1⟩
  have hBz := HB.out.size
  have HB2 := Lib.hid (HB.out.trans (hb1.mono hBz))
  clear HB hBz
  have HB := HB2
  clear HB2
  have HG2 := Lib.hid (HG.out.next hb1)
  clear HG
  have HG := HG2
  clear HG2
  have FG2 := Lib.hid (FG.out.next hb1)
  clear FG
  have FG := FG2
  clear FG2
  have FL2 := Lib.hid (FL.out.next hb1)
  clear FL
  have FL := FL2
  clear FL2
  clear hb1
  go_wp2_with fail
  refine (calls_bool (H.right _ _ _ _ _ _ _ _ _ FG.out FL.out HG.out) HR.out).mono ?_
  rintro e w2 ⟨rfl, hb2⟩
  have hBz := HB.out.size
  have HB2 := Lib.hid (HB.out.trans (hb2.mono hBz))
  clear HB hBz
  have HB := HB2
  clear HB2
  have HG2 := Lib.hid (HG.out.next hb2)
  clear HG
  have HG := HG2
  clear HG2
  have FG2 := Lib.hid (FG.out.next hb2)
  clear FG
  have FG := FG2
  clear FG2
  have FL2 := Lib.hid (FL.out.next hb2)
  clear FL
  have FL := FL2
  clear FL2
  clear hb2
  go_wp2
  go_ret
  exact ⟨rfl, HB.out⟩

set_option maxRecDepth 100000 in
set_option maxHeartbeats 4000000 in
theorem healthSets_lo (H : HealthOk) (A : Option Addr) (n c : Nat) (A2 : Option Addr) (n2 c2 : Nat) (g : Gr) (h : List Int) (k a : Int) (w : World) (hg : GAsk w A n c g) (h60 : n ≤ 60) (hl : WAsk w A2 n2 c2 h) (hG : Glob w) (hr : rightH g h = true) (h0 : k < 0) :
    Calls Tryd.prog 4 #[.slice A n c, .slice A2 n2 c2, .int .i64 k, .int .u8 a] w fun e w' => e = .returned (.bool true) ∧ Below w.heap.size w w' := by
  have FG := Lib.hid hg
  have HG := Lib.hid hG
  have FL := Lib.hid hl
  have HR := Lib.hid hr
  have HB := Lib.hid (Below.refl w.heap.size w)
  have h60d : decide (60 < (n : Int)) = false := by simp; omega
  clear hg hl hG hr
  go_enter Tryd.func4, Tryd.ntmps4
  go_wp2_with fail
  refine (healthAwake_any H _ HG.out).mono ?_
  rintro e w1 ⟨rfl, hb1⟩
  have hBz := HB.out.size
  have HB2 := Lib.hid (HB.out.trans (hb1.mono hBz))
  clear HB hBz
  have HB := HB2
  clear HB2
  have HG2 := Lib.hid (HG.out.next hb1)
  clear HG
  have HG := HG2
  clear HG2
  have FG2 := Lib.hid (FG.out.next hb1)
  clear FG
  have FG := FG2
  clear FG2
  have FL2 := Lib.hid (FL.out.next hb1)
  clear FL
  have FL := FL2
  clear FL2
  clear hb1
  go_wp2_with fail
  refine (calls_bool (H.right _ _ _ _ _ _ _ _ _ FG.out FL.out HG.out) HR.out).mono ?_
  rintro e w2 ⟨rfl, hb2⟩
  have hBz := HB.out.size
  have HB2 := Lib.hid (HB.out.trans (hb2.mono hBz))
  clear HB hBz
  have HB := HB2
  clear HB2
  have HG2 := Lib.hid (HG.out.next hb2)
  clear HG
  have HG := HG2
  clear HG2
  have FG2 := Lib.hid (FG.out.next hb2)
  clear FG
  have FG := FG2
  clear FG2
  have FL2 := Lib.hid (FL.out.next hb2)
  clear FL
  have FL := FL2
  clear FL2
  clear hb2
  go_wp2
  go_ret
  exact ⟨rfl, HB.out⟩

set_option maxRecDepth 100000 in
set_option maxHeartbeats 4000000 in
theorem healthSets_hi (H : HealthOk) (A : Option Addr) (n c : Nat) (A2 : Option Addr) (n2 c2 : Nat) (g : Gr) (h : List Int) (k a : Int) (w : World) (hg : GAsk w A n c g) (h60 : n ≤ 60) (hl : WAsk w A2 n2 c2 h) (hG : Glob w) (hr : rightH g h = true) (h0 : ¬ k < 0) (h1 : (n : Int) ≤ k) :
    Calls Tryd.prog 4 #[.slice A n c, .slice A2 n2 c2, .int .i64 k, .int .u8 a] w fun e w' => e = .returned (.bool true) ∧ Below w.heap.size w w' := by
  have FG := Lib.hid hg
  have HG := Lib.hid hG
  have FL := Lib.hid hl
  have HR := Lib.hid hr
  have HB := Lib.hid (Below.refl w.heap.size w)
  have h60d : decide (60 < (n : Int)) = false := by simp; omega
  have h0d : decide (k < 0) = false := by simpa using h0
  clear hg hl hG hr
  go_enter Tryd.func4, Tryd.ntmps4
  go_wp2_with fail
  refine (healthAwake_any H _ HG.out).mono ?_
  rintro e w1 ⟨rfl, hb1⟩
  have hBz := HB.out.size
  have HB2 := Lib.hid (HB.out.trans (hb1.mono hBz))
  clear HB hBz
  have HB := HB2
  clear HB2
  have HG2 := Lib.hid (HG.out.next hb1)
  clear HG
  have HG := HG2
  clear HG2
  have FG2 := Lib.hid (FG.out.next hb1)
  clear FG
  have FG := FG2
  clear FG2
  have FL2 := Lib.hid (FL.out.next hb1)
  clear FL
  have FL := FL2
  clear FL2
  clear hb1
  go_wp2_with fail
  refine (calls_bool (H.right _ _ _ _ _ _ _ _ _ FG.out FL.out HG.out) HR.out).mono ?_
  rintro e w2 ⟨rfl, hb2⟩
  have hBz := HB.out.size
  have HB2 := Lib.hid (HB.out.trans (hb2.mono hBz))
  clear HB hBz
  have HB := HB2
  clear HB2
  have HG2 := Lib.hid (HG.out.next hb2)
  clear HG
  have HG := HG2
  clear HG2
  have FG2 := Lib.hid (FG.out.next hb2)
  clear FG
  have FG := FG2
  clear FG2
  have FL2 := Lib.hid (FL.out.next hb2)
  clear FL
  have FL := FL2
  clear FL2
  clear hb2
  go_wp2
  go_ret
  exact ⟨rfl, HB.out⟩

set_option maxRecDepth 100000 in
set_option maxHeartbeats 4000000 in
theorem healthSets_down (H : HealthOk) (HGr : GraphOk) (A : Option Addr) (n c : Nat) (A2 : Option Addr) (n2 c2 : Nat) (g : Gr) (h : List Int) (k : Nat) (a : Int) (w : World) (hg : GAsk w A n c g) (h60 : n ≤ 60) (hl : LAsk w A2 n2 c2 h) (hG : Glob w) (hr : rightH g h = true) (hk : k < n) (hkn2 : k < n2) (ha : 0 ≤ a ∧ a ≤ 255) (hmd : a % 3 = 2) (X : List Int) (v : Int) (hx : setL g h (k : Int) 2 = (X, 0)) (hv : h.getD k 0 = v) (hvi : I64 v) (hy : setL g X (k : Int) v = (h, 0)) (hxi : ∀ x ∈ X, I64 x) (lx : X.length ≤ 60) (lh : h.length ≤ 60)
    (hsm : sameB (lessL (belowL g X 0) (underL g (k : Int))) (lessL (belowL g h 0) (underL g (k : Int))) = true) (hap : apartB (belowL g X 1) (underL g (k : Int)) = true) :
    Calls Tryd.prog 4 #[.slice A n c, .slice A2 n2 c2, .int .i64 k, .int .u8 a] w fun e w' => e = .returned (.bool true) ∧ Below w.heap.size w w' := by
  have FG := Lib.hid hg
  have HG := Lib.hid hG
  have FL := Lib.hid hl
  have HR := Lib.hid hr
  have HB := Lib.hid (Below.refl w.heap.size w)
  have h60d : decide (60 < (n : Int)) = false := by simp; omega
  have HX := Lib.hid hx
  have HY := Lib.hid hy
  have HV := Lib.hid hv
  have HVI := Lib.hid hvi
  have HXI := Lib.hid hxi
  have HSM := Lib.hid hsm
  have ha0 := ha.1
  have ha9 := ha.2
  have HKI : Hid (I64 (k : Int)) := Lib.hid (i64_small (by omega))
  have HAI : Hid (I64 2) := Lib.hid (by unfold I64; omega)
  have hkd : decide (n ≤ k) = false := by simp; omega
  have HAP := Lib.hid hap
  clear hg hl hG hr hx hy hv hvi hxi ha hsm hap
  go_enter Tryd.func4, Tryd.ntmps4
  go_wp2_with fail
  refine (healthAwake_any H _ HG.out).mono ?_
  rintro e w1 ⟨rfl, hb1⟩
  have hBz := HB.out.size
  have HB2 := Lib.hid (HB.out.trans (hb1.mono hBz))
  clear HB hBz
  have HB := HB2
  clear HB2
  have HG2 := Lib.hid (HG.out.next hb1)
  clear HG
  have HG := HG2
  clear HG2
  have FG2 := Lib.hid (FG.out.next hb1)
  clear FG
  have FG := FG2
  clear FG2
  have FL2 := Lib.hid (FL.out.next hb1)
  clear FL
  have FL := FL2
  clear FL2
  clear hb1
  go_wp2_with fail
  refine (calls_bool (H.right _ _ _ _ _ _ _ _ _ FG.out FL.out.wide HG.out) HR.out).mono ?_
  rintro e w2 ⟨rfl, hb2⟩
  have hBz := HB.out.size
  have HB2 := Lib.hid (HB.out.trans (hb2.mono hBz))
  clear HB hBz
  have HB := HB2
  clear HB2
  have HG2 := Lib.hid (HG.out.next hb2)
  clear HG
  have HG := HG2
  clear HG2
  have FG2 := Lib.hid (FG.out.next hb2)
  clear FG
  have FG := FG2
  clear FG2
  have FL2 := Lib.hid (FL.out.next hb2)
  clear FL
  have FL := FL2
  clear FL2
  clear hb2
  go_wp2_with fail
  refine (calls_iepost (H.set _ _ _ _ _ _ _ _ (k : Int) 2 _ FG.out FL.out HKI.out HAI.out HG.out) HX.out).mono ?_
  rintro e w3 ⟨⟨A3, c3, rfl, hr3, hnil3, hc3⟩, hb3⟩
  have hBz := HB.out.size
  have HB2 := Lib.hid (HB.out.trans (hb3.mono hBz))
  clear HB hBz
  have HB := HB2
  clear HB2
  have HG2 := Lib.hid (HG.out.next hb3)
  clear HG
  have HG := HG2
  clear HG2
  have FG2 := Lib.hid (FG.out.next hb3)
  clear FG
  have FG := FG2
  clear FG2
  have FL2 := Lib.hid (FL.out.next hb3)
  clear FL
  have FL := FL2
  clear FL2
  clear hb3
  have F1 := Lib.hid hr3
  have F1c := Lib.hid hc3
  have F1z := Lib.hid hnil3
  clear hr3 hc3 hnil3
  have F1L := Lib.hid (LAsk.mk F1.out F1z.out F1c.out (by omega) (HXI.out))
  clear F1c F1z
  clear F1
  obtain ⟨bh, oh, eh, _, hch⟩ := FL.out.reads.one hkn2
  subst eh
  rw [HV.out] at hch
  go_wp2_with fail
  refine (calls_iepost (H.set _ _ _ _ _ _ _ _ (k : Int) v _ FG.out F1L.out HKI.out HVI.out HG.out) HY.out).mono ?_
  rintro e w4 ⟨⟨A4, c4, rfl, hr4, hnil4, hc4⟩, hb4⟩
  have hBz := HB.out.size
  have HB2 := Lib.hid (HB.out.trans (hb4.mono hBz))
  clear HB hBz
  have HB := HB2
  clear HB2
  have HG2 := Lib.hid (HG.out.next hb4)
  clear HG
  have HG := HG2
  clear HG2
  have FG2 := Lib.hid (FG.out.next hb4)
  clear FG
  have FG := FG2
  clear FG2
  have FL2 := Lib.hid (FL.out.next hb4)
  clear FL
  have FL := FL2
  clear FL2
  have F1L2 := Lib.hid (F1L.out.next hb4)
  clear F1L
  have F1L := F1L2
  clear F1L2
  clear hb4
  have F2 := Lib.hid hr4
  have F2c := Lib.hid hc4
  have F2z := Lib.hid hnil4
  clear hr4 hc4 hnil4
  clear hch F2c F2z
  go_wp2_with fail
  refine (HGr.under _ _ _ _ (k : Int) _ FG.out HKI.out HG.out).mono ?_
  rintro e w5 ⟨⟨A5, c5, rfl, hr5, hnil5, hc5⟩, hb5⟩
  have hBz := HB.out.size
  have HB2 := Lib.hid (HB.out.trans (hb5.mono hBz))
  clear HB hBz
  have HB := HB2
  clear HB2
  have HG2 := Lib.hid (HG.out.next hb5)
  clear HG
  have HG := HG2
  clear HG2
  have FG2 := Lib.hid (FG.out.next hb5)
  clear FG
  have FG := FG2
  clear FG2
  have FL2 := Lib.hid (FL.out.next hb5)
  clear FL
  have FL := FL2
  clear FL2
  have F1L2 := Lib.hid (F1L.out.next hb5)
  clear F1L
  have F1L := F1L2
  clear F1L2
  have F22 := Lib.hid (F2.out.next hb5)
  clear F2
  have F2 := F22
  clear F22
  clear hb5
  have FU := Lib.hid hr5
  have FUc := Lib.hid hc5
  have FUz := Lib.hid hnil5
  clear hr5 hc5 hnil5
  clear FUc FUz
  go_wp2_with fail
  refine (ri_same F2.out FL.out.reads (by unfold maxLen; omega) (ml300 FL.out.few) (same_self _)).mono ?_
  rintro e w6 ⟨rfl, hb6⟩
  have hBz := HB.out.size
  have HB2 := Lib.hid (HB.out.trans (hb6.mono hBz))
  clear HB hBz
  have HB := HB2
  clear HB2
  have HG2 := Lib.hid (HG.out.next hb6)
  clear HG
  have HG := HG2
  clear HG2
  have FG2 := Lib.hid (FG.out.next hb6)
  clear FG
  have FG := FG2
  clear FG2
  have FL2 := Lib.hid (FL.out.next hb6)
  clear FL
  have FL := FL2
  clear FL2
  have F1L2 := Lib.hid (F1L.out.next hb6)
  clear F1L
  have F1L := F1L2
  clear F1L2
  have F22 := Lib.hid (F2.out.next hb6)
  clear F2
  have F2 := F22
  clear F22
  have FU2 := Lib.hid (FU.out.next hb6)
  clear FU
  have FU := FU2
  clear FU2
  clear hb6
  clear F2
  go_wp2_with fail
  refine (H.usable _ _ _ _ _ _ _ _ _ FG.out F1L.out HG.out).mono ?_
  rintro e w7 ⟨⟨A7, c7, rfl, hr7, hnil7, hc7⟩, hb7⟩
  have hBz := HB.out.size
  have HB2 := Lib.hid (HB.out.trans (hb7.mono hBz))
  clear HB hBz
  have HB := HB2
  clear HB2
  have HG2 := Lib.hid (HG.out.next hb7)
  clear HG
  have HG := HG2
  clear HG2
  have FG2 := Lib.hid (FG.out.next hb7)
  clear FG
  have FG := FG2
  clear FG2
  have FL2 := Lib.hid (FL.out.next hb7)
  clear FL
  have FL := FL2
  clear FL2
  have F1L2 := Lib.hid (F1L.out.next hb7)
  clear F1L
  have F1L := F1L2
  clear F1L2
  have FU2 := Lib.hid (FU.out.next hb7)
  clear FU
  have FU := FU2
  clear FU2
  clear hb7
  have F3 := Lib.hid hr7
  have F3c := Lib.hid hc7
  have F3z := Lib.hid hnil7
  clear hr7 hc7 hnil7
  clear F3c F3z
  go_wp2_with fail
  refine (s_less F3.out FU.out (ml300 (Nat.le_trans (belowL_len _) (by omega))) (ml300 (Nat.le_trans (underL_len _) (by omega))) HG.out).mono ?_
  rintro e w8 ⟨⟨A8, c8, rfl, hr8, hnil8, hc8⟩, hb8⟩
  have hBz := HB.out.size
  have HB2 := Lib.hid (HB.out.trans (hb8.mono hBz))
  clear HB hBz
  have HB := HB2
  clear HB2
  have HG2 := Lib.hid (HG.out.next hb8)
  clear HG
  have HG := HG2
  clear HG2
  have FG2 := Lib.hid (FG.out.next hb8)
  clear FG
  have FG := FG2
  clear FG2
  have FL2 := Lib.hid (FL.out.next hb8)
  clear FL
  have FL := FL2
  clear FL2
  have F1L2 := Lib.hid (F1L.out.next hb8)
  clear F1L
  have F1L := F1L2
  clear F1L2
  have FU2 := Lib.hid (FU.out.next hb8)
  clear FU
  have FU := FU2
  clear FU2
  have F32 := Lib.hid (F3.out.next hb8)
  clear F3
  have F3 := F32
  clear F32
  clear hb8
  have F4 := Lib.hid hr8
  have F4c := Lib.hid hc8
  have F4z := Lib.hid hnil8
  clear hr8 hc8 hnil8
  clear F3
  clear F4c F4z
  go_wp2_with fail
  refine (H.usable _ _ _ _ _ _ _ _ _ FG.out FL.out HG.out).mono ?_
  rintro e w9 ⟨⟨A9, c9, rfl, hr9, hnil9, hc9⟩, hb9⟩
  have hBz := HB.out.size
  have HB2 := Lib.hid (HB.out.trans (hb9.mono hBz))
  clear HB hBz
  have HB := HB2
  clear HB2
  have HG2 := Lib.hid (HG.out.next hb9)
  clear HG
  have HG := HG2
  clear HG2
  have FG2 := Lib.hid (FG.out.next hb9)
  clear FG
  have FG := FG2
  clear FG2
  have FL2 := Lib.hid (FL.out.next hb9)
  clear FL
  have FL := FL2
  clear FL2
  have F1L2 := Lib.hid (F1L.out.next hb9)
  clear F1L
  have F1L := F1L2
  clear F1L2
  have FU2 := Lib.hid (FU.out.next hb9)
  clear FU
  have FU := FU2
  clear FU2
  have F42 := Lib.hid (F4.out.next hb9)
  clear F4
  have F4 := F42
  clear F42
  clear hb9
  have F5 := Lib.hid hr9
  have F5c := Lib.hid hc9
  have F5z := Lib.hid hnil9
  clear hr9 hc9 hnil9
  clear F5c F5z
  go_wp2_with fail
  refine (s_less F5.out FU.out (ml300 (Nat.le_trans (belowL_len _) (by omega))) (ml300 (Nat.le_trans (underL_len _) (by omega))) HG.out).mono ?_
  rintro e w10 ⟨⟨A10, c10, rfl, hr10, hnil10, hc10⟩, hb10⟩
  have hBz := HB.out.size
  have HB2 := Lib.hid (HB.out.trans (hb10.mono hBz))
  clear HB hBz
  have HB := HB2
  clear HB2
  have HG2 := Lib.hid (HG.out.next hb10)
  clear HG
  have HG := HG2
  clear HG2
  have FG2 := Lib.hid (FG.out.next hb10)
  clear FG
  have FG := FG2
  clear FG2
  have FL2 := Lib.hid (FL.out.next hb10)
  clear FL
  have FL := FL2
  clear FL2
  have F1L2 := Lib.hid (F1L.out.next hb10)
  clear F1L
  have F1L := F1L2
  clear F1L2
  have FU2 := Lib.hid (FU.out.next hb10)
  clear FU
  have FU := FU2
  clear FU2
  have F42 := Lib.hid (F4.out.next hb10)
  clear F4
  have F4 := F42
  clear F42
  have F52 := Lib.hid (F5.out.next hb10)
  clear F5
  have F5 := F52
  clear F52
  clear hb10
  have F6 := Lib.hid hr10
  have F6c := Lib.hid hc10
  have F6z := Lib.hid hnil10
  clear hr10 hc10 hnil10
  clear F5
  clear F6c F6z
  go_wp2_with fail
  refine (ri_same F4.out F6.out (ml300 (Nat.le_trans (length_whichL 2 _ _) (by omega))) (ml300 (Nat.le_trans (length_whichL 2 _ _) (by omega))) HSM.out).mono ?_
  rintro e w11 ⟨rfl, hb11⟩
  have hBz := HB.out.size
  have HB2 := Lib.hid (HB.out.trans (hb11.mono hBz))
  clear HB hBz
  have HB := HB2
  clear HB2
  have HG2 := Lib.hid (HG.out.next hb11)
  clear HG
  have HG := HG2
  clear HG2
  have FG2 := Lib.hid (FG.out.next hb11)
  clear FG
  have FG := FG2
  clear FG2
  have FL2 := Lib.hid (FL.out.next hb11)
  clear FL
  have FL := FL2
  clear FL2
  have F1L2 := Lib.hid (F1L.out.next hb11)
  clear F1L
  have F1L := F1L2
  clear F1L2
  have FU2 := Lib.hid (FU.out.next hb11)
  clear FU
  have FU := FU2
  clear FU2
  have F42 := Lib.hid (F4.out.next hb11)
  clear F4
  have F4 := F42
  clear F42
  have F62 := Lib.hid (F6.out.next hb11)
  clear F6
  have F6 := F62
  clear F62
  clear hb11
  clear F4
  clear F6
  go_wp2_with fail
  refine (H.works _ _ _ _ _ _ _ _ _ FG.out F1L.out HG.out).mono ?_
  rintro e w12 ⟨⟨A12, c12, rfl, hr12, hnil12, hc12⟩, hb12⟩
  have hBz := HB.out.size
  have HB2 := Lib.hid (HB.out.trans (hb12.mono hBz))
  clear HB hBz
  have HB := HB2
  clear HB2
  have HG2 := Lib.hid (HG.out.next hb12)
  clear HG
  have HG := HG2
  clear HG2
  have FG2 := Lib.hid (FG.out.next hb12)
  clear FG
  have FG := FG2
  clear FG2
  have FL2 := Lib.hid (FL.out.next hb12)
  clear FL
  have FL := FL2
  clear FL2
  have F1L2 := Lib.hid (F1L.out.next hb12)
  clear F1L
  have F1L := F1L2
  clear F1L2
  have FU2 := Lib.hid (FU.out.next hb12)
  clear FU
  have FU := FU2
  clear FU2
  clear hb12
  have F7 := Lib.hid hr12
  have F7c := Lib.hid hc12
  have F7z := Lib.hid hnil12
  clear hr12 hc12 hnil12
  clear F7c F7z
  go_wp2_with fail
  refine (s_apart F7.out FU.out (ml300 (Nat.le_trans (belowL_len _) (by omega))) (ml300 (Nat.le_trans (underL_len _) (by omega))) HAP.out).mono ?_
  rintro e w13 ⟨rfl, hb13⟩
  have hBz := HB.out.size
  have HB2 := Lib.hid (HB.out.trans (hb13.mono hBz))
  clear HB hBz
  have HB := HB2
  clear HB2
  have HG2 := Lib.hid (HG.out.next hb13)
  clear HG
  have HG := HG2
  clear HG2
  have FG2 := Lib.hid (FG.out.next hb13)
  clear FG
  have FG := FG2
  clear FG2
  have FL2 := Lib.hid (FL.out.next hb13)
  clear FL
  have FL := FL2
  clear FL2
  have F1L2 := Lib.hid (F1L.out.next hb13)
  clear F1L
  have F1L := F1L2
  clear F1L2
  have FU2 := Lib.hid (FU.out.next hb13)
  clear FU
  have FU := FU2
  clear FU2
  have F72 := Lib.hid (F7.out.next hb13)
  clear F7
  have F7 := F72
  clear F72
  clear hb13
  clear F7
  go_wp2
  go_ret
  exact ⟨rfl, HB.out⟩

set_option maxRecDepth 100000 in
set_option maxHeartbeats 4000000 in
theorem healthSets_not (H : HealthOk) (HGr : GraphOk) (A : Option Addr) (n c : Nat) (A2 : Option Addr) (n2 c2 : Nat) (g : Gr) (h : List Int) (k : Nat) (a : Int) (w : World) (hg : GAsk w A n c g) (h60 : n ≤ 60) (hl : LAsk w A2 n2 c2 h) (hG : Glob w) (hr : rightH g h = true) (hk : k < n) (hkn2 : k < n2) (ha : 0 ≤ a ∧ a ≤ 255) (hmd : ¬ a % 3 = 2) (X : List Int) (v : Int) (hx : setL g h (k : Int) (a % 3) = (X, 0)) (hv : h.getD k 0 = v) (hvi : I64 v) (hy : setL g X (k : Int) v = (h, 0)) (hxi : ∀ x ∈ X, I64 x) (lx : X.length ≤ 60) (lh : h.length ≤ 60)
    (hsm : sameB (lessL (belowL g X 0) (underL g (k : Int))) (lessL (belowL g h 0) (underL g (k : Int))) = true) :
    Calls Tryd.prog 4 #[.slice A n c, .slice A2 n2 c2, .int .i64 k, .int .u8 a] w fun e w' => e = .returned (.bool true) ∧ Below w.heap.size w w' := by
  have FG := Lib.hid hg
  have HG := Lib.hid hG
  have FL := Lib.hid hl
  have HR := Lib.hid hr
  have HB := Lib.hid (Below.refl w.heap.size w)
  have h60d : decide (60 < (n : Int)) = false := by simp; omega
  have HX := Lib.hid hx
  have HY := Lib.hid hy
  have HV := Lib.hid hv
  have HVI := Lib.hid hvi
  have HXI := Lib.hid hxi
  have HSM := Lib.hid hsm
  have ha0 := ha.1
  have ha9 := ha.2
  have HKI : Hid (I64 (k : Int)) := Lib.hid (i64_small (by omega))
  have HAI : Hid (I64 (a % 3)) := Lib.hid (by unfold I64; omega)
  have hkd : decide (n ≤ k) = false := by simp; omega
  have hmdd : (a % 3 != 2) = true := by simpa using hmd
  clear hg hl hG hr hx hy hv hvi hxi ha hsm hmd
  go_enter Tryd.func4, Tryd.ntmps4
  go_wp2_with fail
  refine (healthAwake_any H _ HG.out).mono ?_
  rintro e w1 ⟨rfl, hb1⟩
  have hBz := HB.out.size
  have HB2 := Lib.hid (HB.out.trans (hb1.mono hBz))
  clear HB hBz
  have HB := HB2
  clear HB2
  have HG2 := Lib.hid (HG.out.next hb1)
  clear HG
  have HG := HG2
  clear HG2
  have FG2 := Lib.hid (FG.out.next hb1)
  clear FG
  have FG := FG2
  clear FG2
  have FL2 := Lib.hid (FL.out.next hb1)
  clear FL
  have FL := FL2
  clear FL2
  clear hb1
  go_wp2_with fail
  refine (calls_bool (H.right _ _ _ _ _ _ _ _ _ FG.out FL.out.wide HG.out) HR.out).mono ?_
  rintro e w2 ⟨rfl, hb2⟩
  have hBz := HB.out.size
  have HB2 := Lib.hid (HB.out.trans (hb2.mono hBz))
  clear HB hBz
  have HB := HB2
  clear HB2
  have HG2 := Lib.hid (HG.out.next hb2)
  clear HG
  have HG := HG2
  clear HG2
  have FG2 := Lib.hid (FG.out.next hb2)
  clear FG
  have FG := FG2
  clear FG2
  have FL2 := Lib.hid (FL.out.next hb2)
  clear FL
  have FL := FL2
  clear FL2
  clear hb2
  go_wp2_with fail
  refine (calls_iepost (H.set _ _ _ _ _ _ _ _ (k : Int) (a % 3) _ FG.out FL.out HKI.out HAI.out HG.out) HX.out).mono ?_
  rintro e w3 ⟨⟨A3, c3, rfl, hr3, hnil3, hc3⟩, hb3⟩
  have hBz := HB.out.size
  have HB2 := Lib.hid (HB.out.trans (hb3.mono hBz))
  clear HB hBz
  have HB := HB2
  clear HB2
  have HG2 := Lib.hid (HG.out.next hb3)
  clear HG
  have HG := HG2
  clear HG2
  have FG2 := Lib.hid (FG.out.next hb3)
  clear FG
  have FG := FG2
  clear FG2
  have FL2 := Lib.hid (FL.out.next hb3)
  clear FL
  have FL := FL2
  clear FL2
  clear hb3
  have F1 := Lib.hid hr3
  have F1c := Lib.hid hc3
  have F1z := Lib.hid hnil3
  clear hr3 hc3 hnil3
  have F1L := Lib.hid (LAsk.mk F1.out F1z.out F1c.out (by omega) (HXI.out))
  clear F1c F1z
  clear F1
  obtain ⟨bh, oh, eh, _, hch⟩ := FL.out.reads.one hkn2
  subst eh
  rw [HV.out] at hch
  go_wp2_with fail
  refine (calls_iepost (H.set _ _ _ _ _ _ _ _ (k : Int) v _ FG.out F1L.out HKI.out HVI.out HG.out) HY.out).mono ?_
  rintro e w4 ⟨⟨A4, c4, rfl, hr4, hnil4, hc4⟩, hb4⟩
  have hBz := HB.out.size
  have HB2 := Lib.hid (HB.out.trans (hb4.mono hBz))
  clear HB hBz
  have HB := HB2
  clear HB2
  have HG2 := Lib.hid (HG.out.next hb4)
  clear HG
  have HG := HG2
  clear HG2
  have FG2 := Lib.hid (FG.out.next hb4)
  clear FG
  have FG := FG2
  clear FG2
  have FL2 := Lib.hid (FL.out.next hb4)
  clear FL
  have FL := FL2
  clear FL2
  have F1L2 := Lib.hid (F1L.out.next hb4)
  clear F1L
  have F1L := F1L2
  clear F1L2
  clear hb4
  have F2 := Lib.hid hr4
  have F2c := Lib.hid hc4
  have F2z := Lib.hid hnil4
  clear hr4 hc4 hnil4
  clear hch F2c F2z
  go_wp2_with fail
  refine (HGr.under _ _ _ _ (k : Int) _ FG.out HKI.out HG.out).mono ?_
  rintro e w5 ⟨⟨A5, c5, rfl, hr5, hnil5, hc5⟩, hb5⟩
  have hBz := HB.out.size
  have HB2 := Lib.hid (HB.out.trans (hb5.mono hBz))
  clear HB hBz
  have HB := HB2
  clear HB2
  have HG2 := Lib.hid (HG.out.next hb5)
  clear HG
  have HG := HG2
  clear HG2
  have FG2 := Lib.hid (FG.out.next hb5)
  clear FG
  have FG := FG2
  clear FG2
  have FL2 := Lib.hid (FL.out.next hb5)
  clear FL
  have FL := FL2
  clear FL2
  have F1L2 := Lib.hid (F1L.out.next hb5)
  clear F1L
  have F1L := F1L2
  clear F1L2
  have F22 := Lib.hid (F2.out.next hb5)
  clear F2
  have F2 := F22
  clear F22
  clear hb5
  have FU := Lib.hid hr5
  have FUc := Lib.hid hc5
  have FUz := Lib.hid hnil5
  clear hr5 hc5 hnil5
  clear FUc FUz
  go_wp2_with fail
  refine (ri_same F2.out FL.out.reads (by unfold maxLen; omega) (ml300 FL.out.few) (same_self _)).mono ?_
  rintro e w6 ⟨rfl, hb6⟩
  have hBz := HB.out.size
  have HB2 := Lib.hid (HB.out.trans (hb6.mono hBz))
  clear HB hBz
  have HB := HB2
  clear HB2
  have HG2 := Lib.hid (HG.out.next hb6)
  clear HG
  have HG := HG2
  clear HG2
  have FG2 := Lib.hid (FG.out.next hb6)
  clear FG
  have FG := FG2
  clear FG2
  have FL2 := Lib.hid (FL.out.next hb6)
  clear FL
  have FL := FL2
  clear FL2
  have F1L2 := Lib.hid (F1L.out.next hb6)
  clear F1L
  have F1L := F1L2
  clear F1L2
  have F22 := Lib.hid (F2.out.next hb6)
  clear F2
  have F2 := F22
  clear F22
  have FU2 := Lib.hid (FU.out.next hb6)
  clear FU
  have FU := FU2
  clear FU2
  clear hb6
  clear F2
  go_wp2_with fail
  refine (H.usable _ _ _ _ _ _ _ _ _ FG.out F1L.out HG.out).mono ?_
  rintro e w7 ⟨⟨A7, c7, rfl, hr7, hnil7, hc7⟩, hb7⟩
  have hBz := HB.out.size
  have HB2 := Lib.hid (HB.out.trans (hb7.mono hBz))
  clear HB hBz
  have HB := HB2
  clear HB2
  have HG2 := Lib.hid (HG.out.next hb7)
  clear HG
  have HG := HG2
  clear HG2
  have FG2 := Lib.hid (FG.out.next hb7)
  clear FG
  have FG := FG2
  clear FG2
  have FL2 := Lib.hid (FL.out.next hb7)
  clear FL
  have FL := FL2
  clear FL2
  have F1L2 := Lib.hid (F1L.out.next hb7)
  clear F1L
  have F1L := F1L2
  clear F1L2
  have FU2 := Lib.hid (FU.out.next hb7)
  clear FU
  have FU := FU2
  clear FU2
  clear hb7
  have F3 := Lib.hid hr7
  have F3c := Lib.hid hc7
  have F3z := Lib.hid hnil7
  clear hr7 hc7 hnil7
  clear F3c F3z
  go_wp2_with fail
  refine (s_less F3.out FU.out (ml300 (Nat.le_trans (belowL_len _) (by omega))) (ml300 (Nat.le_trans (underL_len _) (by omega))) HG.out).mono ?_
  rintro e w8 ⟨⟨A8, c8, rfl, hr8, hnil8, hc8⟩, hb8⟩
  have hBz := HB.out.size
  have HB2 := Lib.hid (HB.out.trans (hb8.mono hBz))
  clear HB hBz
  have HB := HB2
  clear HB2
  have HG2 := Lib.hid (HG.out.next hb8)
  clear HG
  have HG := HG2
  clear HG2
  have FG2 := Lib.hid (FG.out.next hb8)
  clear FG
  have FG := FG2
  clear FG2
  have FL2 := Lib.hid (FL.out.next hb8)
  clear FL
  have FL := FL2
  clear FL2
  have F1L2 := Lib.hid (F1L.out.next hb8)
  clear F1L
  have F1L := F1L2
  clear F1L2
  have FU2 := Lib.hid (FU.out.next hb8)
  clear FU
  have FU := FU2
  clear FU2
  have F32 := Lib.hid (F3.out.next hb8)
  clear F3
  have F3 := F32
  clear F32
  clear hb8
  have F4 := Lib.hid hr8
  have F4c := Lib.hid hc8
  have F4z := Lib.hid hnil8
  clear hr8 hc8 hnil8
  clear F3
  clear F4c F4z
  go_wp2_with fail
  refine (H.usable _ _ _ _ _ _ _ _ _ FG.out FL.out HG.out).mono ?_
  rintro e w9 ⟨⟨A9, c9, rfl, hr9, hnil9, hc9⟩, hb9⟩
  have hBz := HB.out.size
  have HB2 := Lib.hid (HB.out.trans (hb9.mono hBz))
  clear HB hBz
  have HB := HB2
  clear HB2
  have HG2 := Lib.hid (HG.out.next hb9)
  clear HG
  have HG := HG2
  clear HG2
  have FG2 := Lib.hid (FG.out.next hb9)
  clear FG
  have FG := FG2
  clear FG2
  have FL2 := Lib.hid (FL.out.next hb9)
  clear FL
  have FL := FL2
  clear FL2
  have F1L2 := Lib.hid (F1L.out.next hb9)
  clear F1L
  have F1L := F1L2
  clear F1L2
  have FU2 := Lib.hid (FU.out.next hb9)
  clear FU
  have FU := FU2
  clear FU2
  have F42 := Lib.hid (F4.out.next hb9)
  clear F4
  have F4 := F42
  clear F42
  clear hb9
  have F5 := Lib.hid hr9
  have F5c := Lib.hid hc9
  have F5z := Lib.hid hnil9
  clear hr9 hc9 hnil9
  clear F5c F5z
  go_wp2_with fail
  refine (s_less F5.out FU.out (ml300 (Nat.le_trans (belowL_len _) (by omega))) (ml300 (Nat.le_trans (underL_len _) (by omega))) HG.out).mono ?_
  rintro e w10 ⟨⟨A10, c10, rfl, hr10, hnil10, hc10⟩, hb10⟩
  have hBz := HB.out.size
  have HB2 := Lib.hid (HB.out.trans (hb10.mono hBz))
  clear HB hBz
  have HB := HB2
  clear HB2
  have HG2 := Lib.hid (HG.out.next hb10)
  clear HG
  have HG := HG2
  clear HG2
  have FG2 := Lib.hid (FG.out.next hb10)
  clear FG
  have FG := FG2
  clear FG2
  have FL2 := Lib.hid (FL.out.next hb10)
  clear FL
  have FL := FL2
  clear FL2
  have F1L2 := Lib.hid (F1L.out.next hb10)
  clear F1L
  have F1L := F1L2
  clear F1L2
  have FU2 := Lib.hid (FU.out.next hb10)
  clear FU
  have FU := FU2
  clear FU2
  have F42 := Lib.hid (F4.out.next hb10)
  clear F4
  have F4 := F42
  clear F42
  have F52 := Lib.hid (F5.out.next hb10)
  clear F5
  have F5 := F52
  clear F52
  clear hb10
  have F6 := Lib.hid hr10
  have F6c := Lib.hid hc10
  have F6z := Lib.hid hnil10
  clear hr10 hc10 hnil10
  clear F5
  clear F6c F6z
  go_wp2_with fail
  refine (ri_same F4.out F6.out (ml300 (Nat.le_trans (length_whichL 2 _ _) (by omega))) (ml300 (Nat.le_trans (length_whichL 2 _ _) (by omega))) HSM.out).mono ?_
  rintro e w11 ⟨rfl, hb11⟩
  have hBz := HB.out.size
  have HB2 := Lib.hid (HB.out.trans (hb11.mono hBz))
  clear HB hBz
  have HB := HB2
  clear HB2
  have HG2 := Lib.hid (HG.out.next hb11)
  clear HG
  have HG := HG2
  clear HG2
  have FG2 := Lib.hid (FG.out.next hb11)
  clear FG
  have FG := FG2
  clear FG2
  have FL2 := Lib.hid (FL.out.next hb11)
  clear FL
  have FL := FL2
  clear FL2
  have F1L2 := Lib.hid (F1L.out.next hb11)
  clear F1L
  have F1L := F1L2
  clear F1L2
  have FU2 := Lib.hid (FU.out.next hb11)
  clear FU
  have FU := FU2
  clear FU2
  have F42 := Lib.hid (F4.out.next hb11)
  clear F4
  have F4 := F42
  clear F42
  have F62 := Lib.hid (F6.out.next hb11)
  clear F6
  have F6 := F62
  clear F62
  clear hb11
  clear F4
  clear F6
  go_wp2
  go_ret
  exact ⟨rfl, HB.out⟩

theorem healthSets_walk (H : HealthOk) (HGr : GraphOk) (A : Option Addr) (n c : Nat) (A2 : Option Addr) (n2 c2 : Nat) (g : Gr) (h : List Int) (k a : Int) (w : World) (hr : RG w w.heap.size A n g) (hnil : A = none → c = 0) (hnc : n ≤ c) (hn : n ≤ maxLen) (hr2 : RI w w.heap.size A2 n2 h) (hj : ∀ x ∈ h, I64 x) (hnil2 : A2 = none → c2 = 0) (hnc2 : n2 ≤ c2) (hn2 : n2 ≤ maxLen) (ha : 0 ≤ a ∧ a ≤ 255) (hG : Glob w) :
    Calls Tryd.prog 4 #[.slice A n c, .slice A2 n2 c2, .int .i64 k, .int .u8 a] w fun e w' => e = .returned (.bool true) ∧ Below w.heap.size w w' := by
  by_cases h60 : 60 < n
  · exact healthSets_long H A n c A2 n2 c2 k a w h60 hn hG
  have hg : GAsk w A n c g := ⟨hr, hnil, hnc, by omega⟩
  have hw : WAsk w A2 n2 c2 h := ⟨hr2, hnil2, hnc2, hn2, hj⟩
  cases hrh : rightH g h with
  | false => exact healthSets_none H A n c A2 n2 c2 g h k a w hg (by omega) hw hG hrh
  | true =>
    have hl := (rightH_is hrh).2.1
    have hlen := hr.len
    have hnn : n2 = n := by rw [← hr2.1, hl, hlen]
    by_cases h0 : k < 0
    · exact healthSets_lo H A n c A2 n2 c2 g h k a w hg (by omega) hw hG hrh h0
    by_cases h1 : (n : Int) ≤ k
    · exact healthSets_hi H A n c A2 n2 c2 g h k a w hg (by omega) hw hG hrh h0 h1
    obtain ⟨q, rfl⟩ : ∃ q : Nat, k = (q : Int) := ⟨k.toNat, by omega⟩
    have hq : q < g.length := by omega
    have hL : LAsk w A2 n2 c2 h := ⟨hr2, hnil2, hnc2, by omega, hj⟩
    have hvb := hAt_bounds hrh hq
    have ra := rightH_set hrh (k := q) (x := a % 3) (by omega) (by omega)
    have hx : setL g h (q : Int) (a % 3) = (h.set q (a % 3), 0) := setL_ok ⟨hrh, by omega, by omega⟩ (by omega)
    have hy : setL g (h.set q (a % 3)) (q : Int) (hAt h q) = (h, 0) := by
      rw [setL_ok ⟨ra, hvb.1, hvb.2⟩ (by rw [List.length_set]; omega), set_back (by omega)]
    have lx : (h.set q (a % 3)).length ≤ 60 := by rw [List.length_set]; omega
    have hsm := sameB_iff.2 (less_under hrh (n := q) (x := a % 3) hq (by omega) (by omega) 0)
    by_cases hmd : a % 3 = 2
    · have hap := down_apart hrh hq
      rw [hmd] at hx hy lx hsm ra
      exact healthSets_down H HGr A n c A2 n2 c2 g h q a w hg (by omega) hL hG hrh (by omega) (by omega) ha hmd _ _ hx rfl (by unfold I64; have := hvb; unfold hAt at this; omega) hy (small_i64 (rightH_is ra).2.2) lx (by omega) hsm hap
    · exact healthSets_not H HGr A n c A2 n2 c2 g h q a w hg (by omega) hL hG hrh (by omega) (by omega) ha hmd _ _ hx rfl (by unfold I64; have := hvb; unfold hAt at this; omega) hy (small_i64 (rightH_is ra).2.2) lx (by omega) hsm

end Go.Proofs.YtnlgnpdajblfnaaDoor
