/- SlotMore of layer 13, as a walk over the contracts. Written by gen/gen_slot.py. -/
import Derived.Test.YtpoalgkgomljmaaDoorMg07
import Derived.Test.YtpoalgkgomljmaaDoorMg05
namespace Go.Proofs.YtpoalgkgomljmaaDoor
open Go.RowKit

section
variable {g : Gr} {use more : List Int} {l : Tb} {s : Sp} {t u v x : Int}
/-- with more that may be used: no later -/
theorem first_more (hm : rightB more = true) (h : firstS g use l s t u = some x) : ∃ y, firstS g (joinL use more) l s t u = some y ∧ y ≤ x := by
  have h1 := firstS_some.1 h
  have hf := fits_more hm h1.1.2
  cases h2 : firstS g (joinL use more) l s t u with
  | none => exact absurd hf (firstS_none.1 h2 x h1.1.1)
  | some y => exact ⟨y, rfl, (firstS_some.1 h2).2 x h1.1.1 hf⟩
/-- till a later time: the same -/
theorem first_until (hv : 0 ≤ v) (h : firstS g use l s t u = some x) : firstS g use l s t (u + v) = some x := by
  have h1 := firstS_some.1 h
  have hf : FitsS g use l s (u + v) x := fits_until (by omega) h1.1.2
  refine firstS_some.2 ⟨⟨h1.1.1, hf⟩, fun y hy hfy => ?_⟩
  by_cases h3 : x ≤ y
  · exact h3
  · have h4 : FitsS g use l s u y := fits_earlier hfy (by have := endsS_rise (s := s) (show y ≤ x by omega); have := h1.1.2.2.2.2.1; omega)
    exact h1.2 y hy h4
end
set_option maxRecDepth 100000 in
set_option maxHeartbeats 8000000 in
theorem slotMore_n0 (H : SlotOk) (A : Option Addr) (n c : Nat) (A2 : Option Addr) (n2 c2 : Nat) (use : List Int) (A4 : Option Addr) (n4 c4 : Nat) (more : List Int) (A3 : Option Addr) (n3 c3 : Nat) (l : Tb) (s : Sp) (t u v : Int) (w : World) (hu : WAsk w A2 n2 c2 use) (hm : WAsk w A4 n4 c4 more) (hl : TAsk w A3 n3 c3 l) (hG : Glob w) (hs : decide (SmallS n n2 n3 l 0) = false) : Calls Tryd.prog 3 #[.slice A n c, .slice A2 n2 c2, .slice A4 n4 c4, .slice A3 n3 c3, .agg #[.int .i64 s.nodes, .int .i64 s.cores, .int .i64 s.gpus, .string s.tag, .bool s.whole, .int .i64 s.long, .int .i64 s.prio], .int .i64 t, .int .i64 u, .int .u32 v] w fun e w' => e = .returned (.bool true) ∧ Below w.heap.size w w' := by
  have hba : Below w.heap.size w (w.alloc (.cells #[.int .i64 s.nodes, .int .i64 s.cores, .int .i64 s.gpus, .string s.tag, .bool s.whole, .int .i64 s.long, .int .i64 s.prio] 26)) := (Below.refl _ _).alloc (Nat.le_refl _) _
  have HB := Lib.hid hba
  have HG := Lib.hid (hG.next hba)
  have UA : Hid (WAsk (w.alloc (.cells #[.int .i64 s.nodes, .int .i64 s.cores, .int .i64 s.gpus, .string s.tag, .bool s.whole, .int .i64 s.long, .int .i64 s.prio] 26)) A2 n2 c2 use) := Lib.hid (hu.next hba)
  have MA : Hid (WAsk (w.alloc (.cells #[.int .i64 s.nodes, .int .i64 s.cores, .int .i64 s.gpus, .string s.tag, .bool s.whole, .int .i64 s.long, .int .i64 s.prio] 26)) A4 n4 c4 more) := Lib.hid (hm.next hba)
  have TA := Lib.hid (hl.next hba)
  have HSM := Lib.hid hs
  clear hba hG hl hu hm hs
  go_enter Tryd.func3, Tryd.ntmps3
  go_wp2_with fail
  refine (awake13_any H _ HG.out).mono ?_
  rintro e w1 ⟨rfl, hb⟩
  have HBq := Lib.hid (HB.out.trans (hb.mono HB.out.size))
  clear HB
  have HB := HBq
  clear HBq
  have HGq := Lib.hid (HG.out.next hb)
  clear HG
  have HG := HGq
  clear HGq
  have UAq := Lib.hid (UA.out.next hb)
  clear UA
  have UA := UAq
  clear UAq
  have MAq := Lib.hid (MA.out.next hb)
  clear MA
  have MA := MAq
  clear MAq
  have TAq := Lib.hid (TA.out.next hb)
  clear TA
  have TA := TAq
  clear TAq
  clear hb
  go_wp2_with fail
  refine (smallS_b TA.out HSM.out).mono ?_
  rintro e w2 ⟨rfl, hb⟩
  have HBq := Lib.hid (HB.out.trans (hb.mono HB.out.size))
  clear HB
  have HB := HBq
  clear HBq
  have HGq := Lib.hid (HG.out.next hb)
  clear HG
  have HG := HGq
  clear HGq
  have UAq := Lib.hid (UA.out.next hb)
  clear UA
  have UA := UAq
  clear UAq
  have MAq := Lib.hid (MA.out.next hb)
  clear MA
  have MA := MAq
  clear MAq
  have TAq := Lib.hid (TA.out.next hb)
  clear TA
  have TA := TAq
  clear TAq
  clear hb
  go_wp2
  go_ret
  exact ⟨rfl, HB.out⟩
set_option maxRecDepth 100000 in
set_option maxHeartbeats 8000000 in
theorem slotMore_n1 (H : SlotOk) (A : Option Addr) (n c : Nat) (A2 : Option Addr) (n2 c2 : Nat) (use : List Int) (A4 : Option Addr) (n4 c4 : Nat) (more : List Int) (A3 : Option Addr) (n3 c3 : Nat) (l : Tb) (s : Sp) (t u v : Int) (w : World) (hu : WAsk w A2 n2 c2 use) (hm : WAsk w A4 n4 c4 more) (hl : TAsk w A3 n3 c3 l) (hG : Glob w) (hs : decide (SmallS n n2 n3 l 0) = true) (h4 : 60 < n4) : Calls Tryd.prog 3 #[.slice A n c, .slice A2 n2 c2, .slice A4 n4 c4, .slice A3 n3 c3, .agg #[.int .i64 s.nodes, .int .i64 s.cores, .int .i64 s.gpus, .string s.tag, .bool s.whole, .int .i64 s.long, .int .i64 s.prio], .int .i64 t, .int .i64 u, .int .u32 v] w fun e w' => e = .returned (.bool true) ∧ Below w.heap.size w w' := by
  have hba : Below w.heap.size w (w.alloc (.cells #[.int .i64 s.nodes, .int .i64 s.cores, .int .i64 s.gpus, .string s.tag, .bool s.whole, .int .i64 s.long, .int .i64 s.prio] 26)) := (Below.refl _ _).alloc (Nat.le_refl _) _
  have HB := Lib.hid hba
  have HG := Lib.hid (hG.next hba)
  have UA : Hid (WAsk (w.alloc (.cells #[.int .i64 s.nodes, .int .i64 s.cores, .int .i64 s.gpus, .string s.tag, .bool s.whole, .int .i64 s.long, .int .i64 s.prio] 26)) A2 n2 c2 use) := Lib.hid (hu.next hba)
  have MA : Hid (WAsk (w.alloc (.cells #[.int .i64 s.nodes, .int .i64 s.cores, .int .i64 s.gpus, .string s.tag, .bool s.whole, .int .i64 s.long, .int .i64 s.prio] 26)) A4 n4 c4 more) := Lib.hid (hm.next hba)
  have TA := Lib.hid (hl.next hba)
  have HSM := Lib.hid hs
  have d4 : decide ((60 : Int) < (n4 : Int)) = true := decide_eq_true (by omega)
  clear hba hG hl hu hm hs h4
  go_enter Tryd.func3, Tryd.ntmps3
  go_wp2_with fail
  refine (awake13_any H _ HG.out).mono ?_
  rintro e w1 ⟨rfl, hb⟩
  have HBq := Lib.hid (HB.out.trans (hb.mono HB.out.size))
  clear HB
  have HB := HBq
  clear HBq
  have HGq := Lib.hid (HG.out.next hb)
  clear HG
  have HG := HGq
  clear HGq
  have UAq := Lib.hid (UA.out.next hb)
  clear UA
  have UA := UAq
  clear UAq
  have MAq := Lib.hid (MA.out.next hb)
  clear MA
  have MA := MAq
  clear MAq
  have TAq := Lib.hid (TA.out.next hb)
  clear TA
  have TA := TAq
  clear TAq
  clear hb
  go_wp2_with fail
  refine (smallS_b TA.out HSM.out).mono ?_
  rintro e w2 ⟨rfl, hb⟩
  have HBq := Lib.hid (HB.out.trans (hb.mono HB.out.size))
  clear HB
  have HB := HBq
  clear HBq
  have HGq := Lib.hid (HG.out.next hb)
  clear HG
  have HG := HGq
  clear HGq
  have UAq := Lib.hid (UA.out.next hb)
  clear UA
  have UA := UAq
  clear UAq
  have MAq := Lib.hid (MA.out.next hb)
  clear MA
  have MA := MAq
  clear MAq
  have TAq := Lib.hid (TA.out.next hb)
  clear TA
  have TA := TAq
  clear TAq
  clear hb
  go_wp2
  go_ret
  exact ⟨rfl, HB.out⟩
set_option maxRecDepth 100000 in
set_option maxHeartbeats 8000000 in
theorem slotMore_n2 (H : SlotOk) (A : Option Addr) (n c : Nat) (A2 : Option Addr) (n2 c2 : Nat) (use : List Int) (A4 : Option Addr) (n4 c4 : Nat) (more : List Int) (A3 : Option Addr) (n3 c3 : Nat) (l : Tb) (s : Sp) (t u v : Int) (w : World) (hu : WAsk w A2 n2 c2 use) (hm : WAsk w A4 n4 c4 more) (hl : TAsk w A3 n3 c3 l) (hG : Glob w) (hs : decide (SmallS n n2 n3 l 0) = true) (h4 : ¬ 60 < n4) (r1 : rightB use = false) : Calls Tryd.prog 3 #[.slice A n c, .slice A2 n2 c2, .slice A4 n4 c4, .slice A3 n3 c3, .agg #[.int .i64 s.nodes, .int .i64 s.cores, .int .i64 s.gpus, .string s.tag, .bool s.whole, .int .i64 s.long, .int .i64 s.prio], .int .i64 t, .int .i64 u, .int .u32 v] w fun e w' => e = .returned (.bool true) ∧ Below w.heap.size w w' := by
  have hba : Below w.heap.size w (w.alloc (.cells #[.int .i64 s.nodes, .int .i64 s.cores, .int .i64 s.gpus, .string s.tag, .bool s.whole, .int .i64 s.long, .int .i64 s.prio] 26)) := (Below.refl _ _).alloc (Nat.le_refl _) _
  have HB := Lib.hid hba
  have HG := Lib.hid (hG.next hba)
  have UA : Hid (WAsk (w.alloc (.cells #[.int .i64 s.nodes, .int .i64 s.cores, .int .i64 s.gpus, .string s.tag, .bool s.whole, .int .i64 s.long, .int .i64 s.prio] 26)) A2 n2 c2 use) := Lib.hid (hu.next hba)
  have MA : Hid (WAsk (w.alloc (.cells #[.int .i64 s.nodes, .int .i64 s.cores, .int .i64 s.gpus, .string s.tag, .bool s.whole, .int .i64 s.long, .int .i64 s.prio] 26)) A4 n4 c4 more) := Lib.hid (hm.next hba)
  have TA := Lib.hid (hl.next hba)
  have HSM := Lib.hid hs
  have d4 : decide ((60 : Int) < (n4 : Int)) = false := decide_eq_false (by omega)
  have HUF := Lib.hid hu.few
  have HMF := Lib.hid hm.few
  have R1 := Lib.hid r1
  clear HMF
  clear hba hG hl hu hm hs h4 r1
  go_enter Tryd.func3, Tryd.ntmps3
  go_wp2_with fail
  refine (awake13_any H _ HG.out).mono ?_
  rintro e w1 ⟨rfl, hb⟩
  have HBq := Lib.hid (HB.out.trans (hb.mono HB.out.size))
  clear HB
  have HB := HBq
  clear HBq
  have HGq := Lib.hid (HG.out.next hb)
  clear HG
  have HG := HGq
  clear HGq
  have UAq := Lib.hid (UA.out.next hb)
  clear UA
  have UA := UAq
  clear UAq
  have MAq := Lib.hid (MA.out.next hb)
  clear MA
  have MA := MAq
  clear MAq
  have TAq := Lib.hid (TA.out.next hb)
  clear TA
  have TA := TAq
  clear TAq
  clear hb
  go_wp2_with fail
  refine (smallS_b TA.out HSM.out).mono ?_
  rintro e w2 ⟨rfl, hb⟩
  have HBq := Lib.hid (HB.out.trans (hb.mono HB.out.size))
  clear HB
  have HB := HBq
  clear HBq
  have HGq := Lib.hid (HG.out.next hb)
  clear HG
  have HG := HGq
  clear HGq
  have UAq := Lib.hid (UA.out.next hb)
  clear UA
  have UA := UAq
  clear UAq
  have MAq := Lib.hid (MA.out.next hb)
  clear MA
  have MA := MAq
  clear MAq
  have TAq := Lib.hid (TA.out.next hb)
  clear TA
  have TA := TAq
  clear TAq
  clear hb
  go_wp2_with fail
  refine (s_isSet UA.out.reads HUF.out R1.out).mono ?_
  rintro e w3 ⟨rfl, hb⟩
  have HBq := Lib.hid (HB.out.trans (hb.mono HB.out.size))
  clear HB
  have HB := HBq
  clear HBq
  have HGq := Lib.hid (HG.out.next hb)
  clear HG
  have HG := HGq
  clear HGq
  have UAq := Lib.hid (UA.out.next hb)
  clear UA
  have UA := UAq
  clear UAq
  have MAq := Lib.hid (MA.out.next hb)
  clear MA
  have MA := MAq
  clear MAq
  have TAq := Lib.hid (TA.out.next hb)
  clear TA
  have TA := TAq
  clear TAq
  clear hb
  go_wp2
  go_ret
  exact ⟨rfl, HB.out⟩
set_option maxRecDepth 100000 in
set_option maxHeartbeats 8000000 in
theorem slotMore_n3 (H : SlotOk) (A : Option Addr) (n c : Nat) (A2 : Option Addr) (n2 c2 : Nat) (use : List Int) (A4 : Option Addr) (n4 c4 : Nat) (more : List Int) (A3 : Option Addr) (n3 c3 : Nat) (l : Tb) (s : Sp) (t u v : Int) (w : World) (hu : WAsk w A2 n2 c2 use) (hm : WAsk w A4 n4 c4 more) (hl : TAsk w A3 n3 c3 l) (hG : Glob w) (hs : decide (SmallS n n2 n3 l 0) = true) (h4 : ¬ 60 < n4) (r1 : rightB use = true) (r2 : rightB more = false) : Calls Tryd.prog 3 #[.slice A n c, .slice A2 n2 c2, .slice A4 n4 c4, .slice A3 n3 c3, .agg #[.int .i64 s.nodes, .int .i64 s.cores, .int .i64 s.gpus, .string s.tag, .bool s.whole, .int .i64 s.long, .int .i64 s.prio], .int .i64 t, .int .i64 u, .int .u32 v] w fun e w' => e = .returned (.bool true) ∧ Below w.heap.size w w' := by
  have hba : Below w.heap.size w (w.alloc (.cells #[.int .i64 s.nodes, .int .i64 s.cores, .int .i64 s.gpus, .string s.tag, .bool s.whole, .int .i64 s.long, .int .i64 s.prio] 26)) := (Below.refl _ _).alloc (Nat.le_refl _) _
  have HB := Lib.hid hba
  have HG := Lib.hid (hG.next hba)
  have UA : Hid (WAsk (w.alloc (.cells #[.int .i64 s.nodes, .int .i64 s.cores, .int .i64 s.gpus, .string s.tag, .bool s.whole, .int .i64 s.long, .int .i64 s.prio] 26)) A2 n2 c2 use) := Lib.hid (hu.next hba)
  have MA : Hid (WAsk (w.alloc (.cells #[.int .i64 s.nodes, .int .i64 s.cores, .int .i64 s.gpus, .string s.tag, .bool s.whole, .int .i64 s.long, .int .i64 s.prio] 26)) A4 n4 c4 more) := Lib.hid (hm.next hba)
  have TA := Lib.hid (hl.next hba)
  have HSM := Lib.hid hs
  have d4 : decide ((60 : Int) < (n4 : Int)) = false := decide_eq_false (by omega)
  have HUF := Lib.hid hu.few
  have HMF := Lib.hid hm.few
  have R1 := Lib.hid r1
  have R2 := Lib.hid r2
  clear hba hG hl hu hm hs h4 r1 r2
  go_enter Tryd.func3, Tryd.ntmps3
  go_wp2_with fail
  refine (awake13_any H _ HG.out).mono ?_
  rintro e w1 ⟨rfl, hb⟩
  have HBq := Lib.hid (HB.out.trans (hb.mono HB.out.size))
  clear HB
  have HB := HBq
  clear HBq
  have HGq := Lib.hid (HG.out.next hb)
  clear HG
  have HG := HGq
  clear HGq
  have UAq := Lib.hid (UA.out.next hb)
  clear UA
  have UA := UAq
  clear UAq
  have MAq := Lib.hid (MA.out.next hb)
  clear MA
  have MA := MAq
  clear MAq
  have TAq := Lib.hid (TA.out.next hb)
  clear TA
  have TA := TAq
  clear TAq
  clear hb
  go_wp2_with fail
  refine (smallS_b TA.out HSM.out).mono ?_
  rintro e w2 ⟨rfl, hb⟩
  have HBq := Lib.hid (HB.out.trans (hb.mono HB.out.size))
  clear HB
  have HB := HBq
  clear HBq
  have HGq := Lib.hid (HG.out.next hb)
  clear HG
  have HG := HGq
  clear HGq
  have UAq := Lib.hid (UA.out.next hb)
  clear UA
  have UA := UAq
  clear UAq
  have MAq := Lib.hid (MA.out.next hb)
  clear MA
  have MA := MAq
  clear MAq
  have TAq := Lib.hid (TA.out.next hb)
  clear TA
  have TA := TAq
  clear TAq
  clear hb
  go_wp2_with fail
  refine (s_isSet UA.out.reads HUF.out R1.out).mono ?_
  rintro e w3 ⟨rfl, hb⟩
  have HBq := Lib.hid (HB.out.trans (hb.mono HB.out.size))
  clear HB
  have HB := HBq
  clear HBq
  have HGq := Lib.hid (HG.out.next hb)
  clear HG
  have HG := HGq
  clear HGq
  have UAq := Lib.hid (UA.out.next hb)
  clear UA
  have UA := UAq
  clear UAq
  have MAq := Lib.hid (MA.out.next hb)
  clear MA
  have MA := MAq
  clear MAq
  have TAq := Lib.hid (TA.out.next hb)
  clear TA
  have TA := TAq
  clear TAq
  clear hb
  go_wp2_with fail
  refine (s_isSet MA.out.reads HMF.out R2.out).mono ?_
  rintro e w4 ⟨rfl, hb⟩
  have HBq := Lib.hid (HB.out.trans (hb.mono HB.out.size))
  clear HB
  have HB := HBq
  clear HBq
  have HGq := Lib.hid (HG.out.next hb)
  clear HG
  have HG := HGq
  clear HGq
  have UAq := Lib.hid (UA.out.next hb)
  clear UA
  have UA := UAq
  clear UAq
  have MAq := Lib.hid (MA.out.next hb)
  clear MA
  have MA := MAq
  clear MAq
  have TAq := Lib.hid (TA.out.next hb)
  clear TA
  have TA := TAq
  clear TAq
  clear hb
  go_wp2
  go_ret
  exact ⟨rfl, HB.out⟩
set_option maxRecDepth 100000 in
set_option maxHeartbeats 8000000 in
theorem slotMore_n4 (H : SlotOk) (A : Option Addr) (n c : Nat) (A2 : Option Addr) (n2 c2 : Nat) (use : List Int) (A4 : Option Addr) (n4 c4 : Nat) (more : List Int) (A3 : Option Addr) (n3 c3 : Nat) (l : Tb) (s : Sp) (t u v : Int) (w : World) (hu : WAsk w A2 n2 c2 use) (hm : WAsk w A4 n4 c4 more) (hl : TAsk w A3 n3 c3 l) (hG : Glob w) (hs : decide (SmallS n n2 n3 l 0) = true) (h4 : ¬ 60 < n4) (r1 : rightB use = true) (r2 : rightB more = true) (h5 : 4611686018427387904 < u) : Calls Tryd.prog 3 #[.slice A n c, .slice A2 n2 c2, .slice A4 n4 c4, .slice A3 n3 c3, .agg #[.int .i64 s.nodes, .int .i64 s.cores, .int .i64 s.gpus, .string s.tag, .bool s.whole, .int .i64 s.long, .int .i64 s.prio], .int .i64 t, .int .i64 u, .int .u32 v] w fun e w' => e = .returned (.bool true) ∧ Below w.heap.size w w' := by
  have hba : Below w.heap.size w (w.alloc (.cells #[.int .i64 s.nodes, .int .i64 s.cores, .int .i64 s.gpus, .string s.tag, .bool s.whole, .int .i64 s.long, .int .i64 s.prio] 26)) := (Below.refl _ _).alloc (Nat.le_refl _) _
  have HB := Lib.hid hba
  have HG := Lib.hid (hG.next hba)
  have UA : Hid (WAsk (w.alloc (.cells #[.int .i64 s.nodes, .int .i64 s.cores, .int .i64 s.gpus, .string s.tag, .bool s.whole, .int .i64 s.long, .int .i64 s.prio] 26)) A2 n2 c2 use) := Lib.hid (hu.next hba)
  have MA : Hid (WAsk (w.alloc (.cells #[.int .i64 s.nodes, .int .i64 s.cores, .int .i64 s.gpus, .string s.tag, .bool s.whole, .int .i64 s.long, .int .i64 s.prio] 26)) A4 n4 c4 more) := Lib.hid (hm.next hba)
  have TA := Lib.hid (hl.next hba)
  have HSM := Lib.hid hs
  have d4 : decide ((60 : Int) < (n4 : Int)) = false := decide_eq_false (by omega)
  have HUF := Lib.hid hu.few
  have HMF := Lib.hid hm.few
  have R1 := Lib.hid r1
  have R2 := Lib.hid r2
  have d5 : decide ((4611686018427387904 : Int) < u) = true := decide_eq_true h5
  clear hba hG hl hu hm hs h4 r1 r2 h5
  go_enter Tryd.func3, Tryd.ntmps3
  go_wp2_with fail
  refine (awake13_any H _ HG.out).mono ?_
  rintro e w1 ⟨rfl, hb⟩
  have HBq := Lib.hid (HB.out.trans (hb.mono HB.out.size))
  clear HB
  have HB := HBq
  clear HBq
  have HGq := Lib.hid (HG.out.next hb)
  clear HG
  have HG := HGq
  clear HGq
  have UAq := Lib.hid (UA.out.next hb)
  clear UA
  have UA := UAq
  clear UAq
  have MAq := Lib.hid (MA.out.next hb)
  clear MA
  have MA := MAq
  clear MAq
  have TAq := Lib.hid (TA.out.next hb)
  clear TA
  have TA := TAq
  clear TAq
  clear hb
  go_wp2_with fail
  refine (smallS_b TA.out HSM.out).mono ?_
  rintro e w2 ⟨rfl, hb⟩
  have HBq := Lib.hid (HB.out.trans (hb.mono HB.out.size))
  clear HB
  have HB := HBq
  clear HBq
  have HGq := Lib.hid (HG.out.next hb)
  clear HG
  have HG := HGq
  clear HGq
  have UAq := Lib.hid (UA.out.next hb)
  clear UA
  have UA := UAq
  clear UAq
  have MAq := Lib.hid (MA.out.next hb)
  clear MA
  have MA := MAq
  clear MAq
  have TAq := Lib.hid (TA.out.next hb)
  clear TA
  have TA := TAq
  clear TAq
  clear hb
  go_wp2_with fail
  refine (s_isSet UA.out.reads HUF.out R1.out).mono ?_
  rintro e w3 ⟨rfl, hb⟩
  have HBq := Lib.hid (HB.out.trans (hb.mono HB.out.size))
  clear HB
  have HB := HBq
  clear HBq
  have HGq := Lib.hid (HG.out.next hb)
  clear HG
  have HG := HGq
  clear HGq
  have UAq := Lib.hid (UA.out.next hb)
  clear UA
  have UA := UAq
  clear UAq
  have MAq := Lib.hid (MA.out.next hb)
  clear MA
  have MA := MAq
  clear MAq
  have TAq := Lib.hid (TA.out.next hb)
  clear TA
  have TA := TAq
  clear TAq
  clear hb
  go_wp2_with fail
  refine (s_isSet MA.out.reads HMF.out R2.out).mono ?_
  rintro e w4 ⟨rfl, hb⟩
  have HBq := Lib.hid (HB.out.trans (hb.mono HB.out.size))
  clear HB
  have HB := HBq
  clear HBq
  have HGq := Lib.hid (HG.out.next hb)
  clear HG
  have HG := HGq
  clear HGq
  have UAq := Lib.hid (UA.out.next hb)
  clear UA
  have UA := UAq
  clear UAq
  have MAq := Lib.hid (MA.out.next hb)
  clear MA
  have MA := MAq
  clear MAq
  have TAq := Lib.hid (TA.out.next hb)
  clear TA
  have TA := TAq
  clear TAq
  clear hb
  go_wp2
  go_ret
  exact ⟨rfl, HB.out⟩
set_option maxRecDepth 100000 in
set_option maxHeartbeats 8000000 in
theorem slotMore_yes (H : SlotOk) {A : Option Addr} {n c : Nat} {g : Gr} {A2 : Option Addr} {n2 c2 : Nat} {use : List Int} {A3 : Option Addr} {n3 c3 : Nat} {l : Tb} {A4 : Option Addr} {n4 c4 : Nat} {more : List Int} {s : Sp} {t u v : Int} {w : World} (hg : GAsk w A n c g) (hu : LAsk w A2 n2 c2 use) (hl : TAsk w A3 n3 c3 l) (hf : FewT l) (hm : LAsk w A4 n4 c4 more) (hs : SAsk s) (ht : I64 t) (hv : I64 u) (hby : 0 ≤ v ∧ v ≤ 4294967295) (hsm : decide (SmallS n n2 n3 l 0) = true) (h4 : ¬ 60 < n4) (r1 : rightB use = true) (r2 : rightB more = true) (h5 : ¬ 4611686018427387904 < u) (hG : Glob w) : Calls Tryd.prog 3 #[.slice A n c, .slice A2 n2 c2, .slice A4 n4 c4, .slice A3 n3 c3, .agg #[.int .i64 s.nodes, .int .i64 s.cores, .int .i64 s.gpus, .string s.tag, .bool s.whole, .int .i64 s.long, .int .i64 s.prio], .int .i64 t, .int .i64 u, .int .u32 v] w fun e w' => e = .returned (.bool true) ∧ Below w.heap.size w w' := by
  have hba : Below w.heap.size w (w.alloc (.cells #[.int .i64 s.nodes, .int .i64 s.cores, .int .i64 s.gpus, .string s.tag, .bool s.whole, .int .i64 s.long, .int .i64 s.prio] 26)) := (Below.refl _ _).alloc (Nat.le_refl _) _
  have HB := Lib.hid hba
  have HG := Lib.hid (hG.next hba)
  have GA := Lib.hid (hg.next hba)
  have UA := Lib.hid (hu.next hba)
  have MA := Lib.hid (hm.next hba)
  have TA := Lib.hid (hl.next hba)
  have BS : Hid (BoxS (w.alloc (.cells #[.int .i64 s.nodes, .int .i64 s.cores, .int .i64 s.gpus, .string s.tag, .bool s.whole, .int .i64 s.long, .int .i64 s.prio] 26)) w.heap.size s) := Lib.hid (box_new w s)
  have HF := Lib.hid hf
  have HS := Lib.hid hs
  have HT := Lib.hid ht
  have HV := Lib.hid hv
  have HVB : Hid (I64 (u + v)) := Lib.hid (by unfold I64 at *; omega)
  have HSM := Lib.hid hsm
  have R1 := Lib.hid r1
  have R2 := Lib.hid r2
  have HUF : Hid (n2 ≤ maxLen) := Lib.hid (by have := hu.few; unfold maxLen; omega)
  have HMF : Hid (n4 ≤ maxLen) := Lib.hid (by have := hm.few; unfold maxLen; omega)
  have d4 : decide ((60 : Int) < (n4 : Int)) = false := decide_eq_false (by omega)
  have d5 : decide ((4611686018427387904 : Int) < u) = false := decide_eq_false h5
  have hw : wrap64 (u + v) = u + v := by unfold I64 at hv; unfold wrap64; omega
  obtain ⟨jl, kj⟩ : ∃ r, joinL use more = r := ⟨_, rfl⟩
  have HJ := Lib.hid kj
  have HJL : Hid (jl.length = jl.length ∧ jl.length ≤ 300 ∧ ∀ x ∈ jl, I64 x) := Lib.hid ⟨rfl, by rw [← kj]; have := length_whichL 0 use more; unfold joinL; omega, fun x hx => by rw [← kj] at hx; have := right_mem (right_joinL use more) x hx; unfold I64; omega⟩
  obtain ⟨x1, k1⟩ : ∃ r, firstAtS g use l s t u = r := ⟨_, rfl⟩
  obtain ⟨r1, k2⟩ : ∃ r, firstLS g use l s t u = r := ⟨_, rfl⟩
  obtain ⟨b1, k3⟩ : ∃ b, firstBS g use l s t u = b := ⟨_, rfl⟩
  obtain ⟨x2, k4⟩ : ∃ r, firstAtS g jl l s t u = r := ⟨_, rfl⟩
  obtain ⟨r2, k5⟩ : ∃ r, firstLS g jl l s t u = r := ⟨_, rfl⟩
  obtain ⟨b2, k6⟩ : ∃ b, firstBS g jl l s t u = b := ⟨_, rfl⟩
  obtain ⟨x3, k7⟩ : ∃ r, firstAtS g use l s t (u + v) = r := ⟨_, rfl⟩
  obtain ⟨r3, k8⟩ : ∃ r, firstLS g use l s t (u + v) = r := ⟨_, rfl⟩
  obtain ⟨b3, k9⟩ : ∃ b, firstBS g use l s t (u + v) = b := ⟨_, rfl⟩
  have E1 := Lib.hid (show firstAtS g use l s t u = x1 ∧ firstLS g use l s t u = r1 ∧ firstBS g use l s t u = b1 from ⟨k1, k2, k3⟩)
  have E2 := Lib.hid (show firstAtS g jl l s t u = x2 ∧ firstLS g jl l s t u = r2 ∧ firstBS g jl l s t u = b2 from ⟨k4, k5, k6⟩)
  have E3 := Lib.hid (show firstAtS g use l s t (u + v) = x3 ∧ firstLS g use l s t (u + v) = r3 ∧ firstBS g use l s t (u + v) = b3 from ⟨k7, k8, k9⟩)
  have F1 : b1 = true → b2 = true ∧ x2 ≤ x1 ∧ b3 = true ∧ x3 = x1 := fun h => by
    cases hf1 : firstS g use l s t u with
    | none => rw [← k3, (first_none hf1).2.2] at h; cases h
    | some z =>
      obtain ⟨y, hy, hz⟩ := first_more R2.out hf1
      rw [kj] at hy
      have h3 := first_until hby.1 hf1
      rw [← k6, ← k4, ← k1, ← k9, ← k7, (first_some hf1).1, (first_some hy).1, (first_some hy).2.2, (first_some h3).1, (first_some h3).2.2]
      exact ⟨rfl, hz, rfl, rfl⟩
  clear hba hG hg hu hm hl hf hs ht hv hsm h4 h5 k1 k2 k3 k4 k5 k6 k7 k8 k9 kj
  go_enter Tryd.func3, Tryd.ntmps3
  go_wp2_with fail
  refine (awake13_any H _ HG.out).mono ?_
  rintro e w1 ⟨rfl, hb⟩
  have HBq := Lib.hid (HB.out.trans (hb.mono HB.out.size))
  clear HB
  have HB := HBq
  clear HBq
  have HGq := Lib.hid (HG.out.next hb)
  clear HG
  have HG := HGq
  clear HGq
  have GAq := Lib.hid (GA.out.next hb)
  clear GA
  have GA := GAq
  clear GAq
  have UAq := Lib.hid (UA.out.next hb)
  clear UA
  have UA := UAq
  clear UAq
  have MAq := Lib.hid (MA.out.next hb)
  clear MA
  have MA := MAq
  clear MAq
  have TAq := Lib.hid (TA.out.next hb)
  clear TA
  have TA := TAq
  clear TAq
  have BSq := Lib.hid (BS.out.next hb)
  clear BS
  have BS := BSq
  clear BSq
  clear hb
  go_wp2_with fail
  refine (smallS_b TA.out HSM.out).mono ?_
  rintro e w2 ⟨rfl, hb⟩
  have HBq := Lib.hid (HB.out.trans (hb.mono HB.out.size))
  clear HB
  have HB := HBq
  clear HBq
  have HGq := Lib.hid (HG.out.next hb)
  clear HG
  have HG := HGq
  clear HGq
  have GAq := Lib.hid (GA.out.next hb)
  clear GA
  have GA := GAq
  clear GAq
  have UAq := Lib.hid (UA.out.next hb)
  clear UA
  have UA := UAq
  clear UAq
  have MAq := Lib.hid (MA.out.next hb)
  clear MA
  have MA := MAq
  clear MAq
  have TAq := Lib.hid (TA.out.next hb)
  clear TA
  have TA := TAq
  clear TAq
  have BSq := Lib.hid (BS.out.next hb)
  clear BS
  have BS := BSq
  clear BSq
  clear hb
  go_wp2_with fail
  refine (s_isSet UA.out.reads HUF.out R1.out).mono ?_
  rintro e w3 ⟨rfl, hb⟩
  have HBq := Lib.hid (HB.out.trans (hb.mono HB.out.size))
  clear HB
  have HB := HBq
  clear HBq
  have HGq := Lib.hid (HG.out.next hb)
  clear HG
  have HG := HGq
  clear HGq
  have GAq := Lib.hid (GA.out.next hb)
  clear GA
  have GA := GAq
  clear GAq
  have UAq := Lib.hid (UA.out.next hb)
  clear UA
  have UA := UAq
  clear UAq
  have MAq := Lib.hid (MA.out.next hb)
  clear MA
  have MA := MAq
  clear MAq
  have TAq := Lib.hid (TA.out.next hb)
  clear TA
  have TA := TAq
  clear TAq
  have BSq := Lib.hid (BS.out.next hb)
  clear BS
  have BS := BSq
  clear BSq
  clear hb
  go_wp2_with fail
  refine (s_isSet MA.out.reads HMF.out R2.out).mono ?_
  rintro e w4 ⟨rfl, hb⟩
  have HBq := Lib.hid (HB.out.trans (hb.mono HB.out.size))
  clear HB
  have HB := HBq
  clear HBq
  have HGq := Lib.hid (HG.out.next hb)
  clear HG
  have HG := HGq
  clear HGq
  have GAq := Lib.hid (GA.out.next hb)
  clear GA
  have GA := GAq
  clear GAq
  have UAq := Lib.hid (UA.out.next hb)
  clear UA
  have UA := UAq
  clear UAq
  have MAq := Lib.hid (MA.out.next hb)
  clear MA
  have MA := MAq
  clear MAq
  have TAq := Lib.hid (TA.out.next hb)
  clear TA
  have TA := TAq
  clear TAq
  have BSq := Lib.hid (BS.out.next hb)
  clear BS
  have BS := BSq
  clear BSq
  clear hb
  have q0 := BS.out.c0
  have q1 := BS.out.c1
  have q2 := BS.out.c2
  have q3 := BS.out.c3
  have q4 := BS.out.c4
  have q5 := BS.out.c5
  have q6 := BS.out.c6
  go_wp2_with fail
  refine (s13_first H GA.out UA.out TA.out HF.out HS.out HT.out HV.out HG.out E1.out.1 E1.out.2.1 E1.out.2.2).mono ?_
  rintro e w5 ⟨⟨A31, c31, rfl, hr3, hn3, hc3⟩, hb⟩
  have HBq := Lib.hid (HB.out.trans (hb.mono HB.out.size))
  clear HB
  have HB := HBq
  clear HBq
  have HGq := Lib.hid (HG.out.next hb)
  clear HG
  have HG := HGq
  clear HGq
  have GAq := Lib.hid (GA.out.next hb)
  clear GA
  have GA := GAq
  clear GAq
  have UAq := Lib.hid (UA.out.next hb)
  clear UA
  have UA := UAq
  clear UAq
  have MAq := Lib.hid (MA.out.next hb)
  clear MA
  have MA := MAq
  clear MAq
  have TAq := Lib.hid (TA.out.next hb)
  clear TA
  have TA := TAq
  clear TAq
  have BSq := Lib.hid (BS.out.next hb)
  clear BS
  have BS := BSq
  clear BSq
  clear hb
  clear hr3 hn3 hc3
  clear q0 q1 q2 q3 q4 q5 q6
  go_wp2_with fail
  have HKEEP : Hid (∀ wx, Below w5.drew.heap.size w5.drew wx → wx.cell? ⟨w.heap.size, 0, none⟩ = some (.int .i64 s.nodes) ∧ wx.cell? ⟨w.heap.size, 1, none⟩ = some (.int .i64 s.cores) ∧ wx.cell? ⟨w.heap.size, 2, none⟩ = some (.int .i64 s.gpus) ∧ wx.cell? ⟨w.heap.size, 3, none⟩ = some (.string s.tag) ∧ wx.cell? ⟨w.heap.size, 4, none⟩ = some (.bool s.whole) ∧ wx.cell? ⟨w.heap.size, 5, none⟩ = some (.int .i64 s.long) ∧ wx.cell? ⟨w.heap.size, 6, none⟩ = some (.int .i64 s.prio)) := Lib.hid (fun wx hz' => by
    have hz := (bel_drew1 w5).trans (hz'.mono (bel_drew1 w5).size)
    exact ⟨keep_cell BS.out.lt BS.out.c0 hz, keep_cell BS.out.lt BS.out.c1 hz, keep_cell BS.out.lt BS.out.c2 hz, keep_cell BS.out.lt BS.out.c3 hz, keep_cell BS.out.lt BS.out.c4 hz, keep_cell BS.out.lt BS.out.c5 hz, keep_cell BS.out.lt BS.out.c6 hz⟩)
  have hd := bel_drew1 w5
  have HBq := Lib.hid (HB.out.trans (hd.mono HB.out.size))
  clear HB
  have HB := HBq
  clear HBq
  have HGq := Lib.hid (HG.out.next hd)
  clear HG
  have HG := HGq
  clear HGq
  have GAq := Lib.hid (GA.out.next hd)
  clear GA
  have GA := GAq
  clear GAq
  have UAq := Lib.hid (UA.out.next hd)
  clear UA
  have UA := UAq
  clear UAq
  have MAq := Lib.hid (MA.out.next hd)
  clear MA
  have MA := MAq
  clear MAq
  have TAq := Lib.hid (TA.out.next hd)
  clear TA
  have TA := TAq
  clear TAq
  have BSq := Lib.hid (BS.out.next hd)
  clear BS
  have BS := BSq
  clear BSq
  clear hd
  have HY := Lib.hid (Below.refl w5.drew.heap.size w5.drew)
  go_region_held3 (fun w' => w'.cell? ⟨w.heap.size, 0, none⟩ = some (.int .i64 s.nodes) ∧ w'.cell? ⟨w.heap.size, 1, none⟩ = some (.int .i64 s.cores) ∧ w'.cell? ⟨w.heap.size, 2, none⟩ = some (.int .i64 s.gpus) ∧ w'.cell? ⟨w.heap.size, 3, none⟩ = some (.string s.tag) ∧ w'.cell? ⟨w.heap.size, 4, none⟩ = some (.bool s.whole) ∧ w'.cell? ⟨w.heap.size, 5, none⟩ = some (.int .i64 s.long) ∧ w'.cell? ⟨w.heap.size, 6, none⟩ = some (.int .i64 s.prio))
    (first | exact HKEEP.out _ (Below.refl _ _) | exact HKEEP.out _ HY.out | exact HKEEP.out _ (HY.out.alloc HY.out.size _) | go_keep | fail)
    (first | (go_at_call 9; (with_reducible refine (calls_ipost (s_join UA.out.reads MA.out.reads HUF.out HMF.out HG.out) HJ.out).mono ?_); rintro e w6 ⟨⟨A5, c5, rfl, hr5, hnil5, hc5⟩, hb⟩; have HY := Lib.hid (HY.out.trans (hb.mono HY.out.size)); have HB := Lib.hid (HB.out.trans (hb.mono HB.out.size)); have HG := Lib.hid (HG.out.next hb); have GA := Lib.hid (GA.out.next hb); have UA := Lib.hid (UA.out.next hb); have MA := Lib.hid (MA.out.next hb); have TA := Lib.hid (TA.out.next hb); have BS := Lib.hid (BS.out.next hb); have JA := Lib.hid (⟨hr5, hnil5, hc5, HJL.out.2.1, HJL.out.2.2⟩ : LAsk _ A5 _ c5 jl); clear hb) | (go_at_call 8; (with_reducible refine (s13_first H GA.out JA.out TA.out HF.out HS.out HT.out HV.out HG.out E2.out.1 E2.out.2.1 E2.out.2.2).mono ?_); rintro e w7 ⟨⟨A61, c61, rfl, _, _, _⟩, hb⟩; have HY := Lib.hid (HY.out.trans (hb.mono HY.out.size)); have HB := Lib.hid (HB.out.trans (hb.mono HB.out.size)); have HG := Lib.hid (HG.out.next hb); have GA := Lib.hid (GA.out.next hb); have UA := Lib.hid (UA.out.next hb); have MA := Lib.hid (MA.out.next hb); have TA := Lib.hid (TA.out.next hb); have BS := Lib.hid (BS.out.next hb); have JA := Lib.hid (JA.out.next hb); clear hb) | fail)
  clear HKEEP HY
  have q0 := BS.out.c0
  have q1 := BS.out.c1
  have q2 := BS.out.c2
  have q3 := BS.out.c3
  have q4 := BS.out.c4
  have q5 := BS.out.c5
  have q6 := BS.out.c6
  go_wp2_with fail
  refine (s13_first H GA.out UA.out TA.out HF.out HS.out HT.out HVB.out HG.out E3.out.1 E3.out.2.1 E3.out.2.2).mono ?_
  rintro e w8 ⟨⟨A71, c71, rfl, hr7, hn7, hc7⟩, hb⟩
  have HBq := Lib.hid (HB.out.trans (hb.mono HB.out.size))
  clear HB
  have HB := HBq
  clear HBq
  have HGq := Lib.hid (HG.out.next hb)
  clear HG
  have HG := HGq
  clear HGq
  have GAq := Lib.hid (GA.out.next hb)
  clear GA
  have GA := GAq
  clear GAq
  have UAq := Lib.hid (UA.out.next hb)
  clear UA
  have UA := UAq
  clear UAq
  have MAq := Lib.hid (MA.out.next hb)
  clear MA
  have MA := MAq
  clear MAq
  have TAq := Lib.hid (TA.out.next hb)
  clear TA
  have TA := TAq
  clear TAq
  have BSq := Lib.hid (BS.out.next hb)
  clear BS
  have BS := BSq
  clear BSq
  have JAq := Lib.hid (JA.out.next hb)
  clear JA
  have JA := JAq
  clear JAq
  clear hb
  clear hr7 hn7 hc7
  clear q0 q1 q2 q3 q4 q5 q6
  cases b1 with
  | true =>
    obtain ⟨rfl, h6, rfl, e3⟩ := F1 rfl
    have d2 : decide (x2 ≤ x1) = true := decide_eq_true h6
    have d3 : (x3 == x1) = true := beq_iff_eq.2 e3
    clear F1 h6 e3
    go_wp2
    go_ret
    exact ⟨rfl, HB.out⟩
  | false =>
    clear F1
    go_wp2
    go_ret
    exact ⟨rfl, HB.out⟩
theorem slotMore_walk (H : SlotOk) (A : Option Addr) (n c : Nat) (g : Gr) (A2 : Option Addr) (n2 c2 : Nat) (use : List Int) (A4 : Option Addr) (n4 c4 : Nat) (more : List Int) (A3 : Option Addr) (n3 c3 : Nat) (l : Tb) (s : Sp) (t u v : Int) (w : World) (hr : RG w w.heap.size A n g) (hnil : A = none → c = 0) (hnc : n ≤ c) (hu : WAsk w A2 n2 c2 use) (hm : WAsk w A4 n4 c4 more) (hl : TAsk w A3 n3 c3 l) (hs : SAsk s) (ht : I64 t) (hv : I64 u) (hby : 0 ≤ v ∧ v ≤ 4294967295) (hG : Glob w) : Calls Tryd.prog 3 #[.slice A n c, .slice A2 n2 c2, .slice A4 n4 c4, .slice A3 n3 c3, .agg #[.int .i64 s.nodes, .int .i64 s.cores, .int .i64 s.gpus, .string s.tag, .bool s.whole, .int .i64 s.long, .int .i64 s.prio], .int .i64 t, .int .i64 u, .int .u32 v] w fun e w' => e = .returned (.bool true) ∧ Below w.heap.size w w' := by
  cases hsm : decide (SmallS n n2 n3 l 0) with
  | false => exact slotMore_n0 H A n c A2 n2 c2 use A4 n4 c4 more A3 n3 c3 l s t u v w hu hm hl hG hsm
  | true =>
    by_cases h4 : 60 < n4
    · exact slotMore_n1 H A n c A2 n2 c2 use A4 n4 c4 more A3 n3 c3 l s t u v w hu hm hl hG hsm h4
    cases r1 : rightB use with
    | false => exact slotMore_n2 H A n c A2 n2 c2 use A4 n4 c4 more A3 n3 c3 l s t u v w hu hm hl hG hsm h4 r1
    | true =>
      cases r2 : rightB more with
      | false => exact slotMore_n3 H A n c A2 n2 c2 use A4 n4 c4 more A3 n3 c3 l s t u v w hu hm hl hG hsm h4 r1 r2
      | true =>
        by_cases h5 : 4611686018427387904 < u
        · exact slotMore_n4 H A n c A2 n2 c2 use A4 n4 c4 more A3 n3 c3 l s t u v w hu hm hl hG hsm h4 r1 r2 h5
        have h := of_decide_eq_true hsm
        unfold SmallS at h
        exact slotMore_yes H ⟨hr, hnil, hnc, by omega⟩ ⟨hu.reads, hu.nil, hu.cap, by omega, hu.int⟩ hl (short_fewS h.2.2.2.1) ⟨hm.reads, hm.nil, hm.cap, by omega, hm.int⟩ hs ht hv hby hsm h4 r1 r2 h5 hG

end Go.Proofs.YtpoalgkgomljmaaDoor
