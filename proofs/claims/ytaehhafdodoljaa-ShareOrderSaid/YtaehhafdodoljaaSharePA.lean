/- The program's Clean, Fade, Sum, Share. Written by gen/gen_sharep.py. -/
import Derived.Test.YtaehhafdodoljaaShareFace
import Derived.Test.YtaehhafdodoljaaShareAwake
import Derived.Test.YtaehhafdodoljaaFloatMore
import Derived.Test.YtaehhafdodoljaaLater
import Derived.LoopTactic
import Derived.Deep.RegionHeld3
import Derived.Deep.QuietTactic
namespace Go.Proofs.Ytaehhafdodoljaa
open Go.RowKit

theorem run_fby2 {w : World} {t : TypeId} {a : Nat} (ha : a < 9218868437227405312) : (binOp .quo t (.float .f64 a) (.float .f64 4611686018427387904)).run Try.prog w = .ok (.float .f64 (halfF a)) w := run_float_arith w .quo t .f64 a _ _ (div_halfF ha)
theorem clean_any (x : Nat) (w : World) (hx : W64 x) : Calls Try.prog 10 #[.float .f64 x] w fun e w' => e = .returned (.float .f64 (cleanF x)) ∧ Below w.heap.size w w' := by
  have HB := Lib.hid (Below.refl w.heap.size w)
  by_cases h : 0 < x ∧ x ≤ 9218868437227405312
  · have n1 : (FloatKind.f64.format.order x x != some Ordering.eq) = false := by rw [fne h.2 h.2]; simp
    have n2 : (FloatKind.f64.format.order x 0 == some Ordering.lt) = false := by rw [flt h.2 (by decide)]; exact decide_eq_false (by omega)
    have n3 : (FloatKind.f64.format.order x 0 == some Ordering.eq) = false := by rw [feq h.2 (by decide)]; exact decide_eq_false (by omega)
    have g1 := fgt hx (b := 9218868437227405311) (by decide)
    by_cases h1 : x = 9218868437227405312
    · rw [decide_eq_true (by omega)] at g1
      have e : cleanF x = 9218868437227405311 := by subst h1; rfl
      rw [e]
      clear hx h h1 e
      go_enter Try.func10, Try.ntmps10
      go_wp2
      go_ret
      exact ⟨rfl, HB.out⟩
    · rw [decide_eq_false (by omega)] at g1
      have e : cleanF x = x := cleanF_self (by omega)
      rw [e]
      clear hx h h1 e
      go_enter Try.func10, Try.ntmps10
      go_wp2
      go_ret
      exact ⟨rfl, HB.out⟩
  · have e : cleanF x = 0 := by
      by_cases h0 : x = 0
      · subst h0; rfl
      · unfold cleanF; rw [if_neg (by omega), if_neg (by omega)]
    rw [e]
    rcases bad_word hx h with hn | ⟨he, hl | hl⟩
    · have n1 : (FloatKind.f64.format.order x x != some Ordering.eq) = true := by rw [show FloatKind.f64.format.order x x = none from hn]; rfl
      clear hx h e hn
      go_enter Try.func10, Try.ntmps10
      go_wp2
      go_ret
      exact ⟨rfl, HB.out⟩
    · have n1 : (FloatKind.f64.format.order x x != some Ordering.eq) = false := by rw [show FloatKind.f64.format.order x x = some Ordering.eq from he]; rfl
      have n2 : (FloatKind.f64.format.order x 0 == some Ordering.lt) = true := by rw [show FloatKind.f64.format.order x 0 = some Ordering.lt from hl]; rfl
      clear hx h e he hl
      go_enter Try.func10, Try.ntmps10
      go_wp2
      go_ret
      exact ⟨rfl, HB.out⟩
    · have n1 : (FloatKind.f64.format.order x x != some Ordering.eq) = false := by rw [show FloatKind.f64.format.order x x = some Ordering.eq from he]; rfl
      have n2 : (FloatKind.f64.format.order x 0 == some Ordering.lt) = false := by rw [show FloatKind.f64.format.order x 0 = some Ordering.eq from hl]; rfl
      have n3 : (FloatKind.f64.format.order x 0 == some Ordering.eq) = true := by rw [show FloatKind.f64.format.order x 0 = some Ordering.eq from hl]; rfl
      clear hx h e he hl
      go_enter Try.func10, Try.ntmps10
      go_wp2
      go_ret
      exact ⟨rfl, HB.out⟩
set_option maxRecDepth 100000 in
set_option maxHeartbeats 8000000 in
theorem fade_any (x : Nat) (h : Int) (w : World) (hx : W64 x) (hh : I64 h) : Calls Try.prog 12 #[.float .f64 x, .int .i64 h] w fun e w' => e = .returned (.float .f64 (fadeV x h)) ∧ Below w.heap.size w w' := by
  have HB := Lib.hid (Below.refl w.heap.size w)
  have hmin : (halvesN h : Int) = max (min h 4096) 0 := by unfold halvesN; omega
  obtain ⟨m, hm⟩ : ∃ m, halvesN h = m := ⟨_, rfl⟩
  obtain ⟨z, hz⟩ : ∃ z, fadeV x h = z := ⟨_, rfl⟩
  have HZ : Hid (fadeN (cleanF x) m = z) := Lib.hid (by rw [← hm]; exact hz)
  rw [hz]
  rw [hm] at hmin
  clear hz hm
  have HCL := Lib.hid (cleanF_lt x)
  have HX := Lib.hid hx
  unfold I64 at hh
  clear hx
  by_cases h9 : h ≤ 4096
  · have hm1 : (m : Int) = max h 0 := by omega
    clear hmin
    go_enter Try.func12, Try.ntmps12
    go_wp2_with fail
    refine (clean_any x w HX.out).mono ?_
    rintro e w1 ⟨rfl, hb⟩
    have HBq := Lib.hid (HB.out.trans (hb.mono HB.out.size))
    clear HB
    have HB := HBq
    clear HBq
    clear hb
    go_wp2
    go_loopw [0, 9] (fun xv iv wr => ∃ (k a : Nat), k ≤ m ∧ iv = .int .i64 k ∧ xv = .float .f64 a ∧ a < 9218868437227405312 ∧ fadeN a (m - k) = z ∧ Below w.heap.size w wr) (fun _ iv _ => m - (intOf iv).toNat)
    case atStart => exact ⟨0, cleanF x, Nat.zero_le _, rfl, rfl, HCL.out, HZ.out, HB.out⟩
    case round =>
      obtain ⟨k, a, hk, rfl, rfl, ha, hfz, hb⟩ := hrel
      have HBZ := Lib.hid hb
      clear hb
      by_cases hlt : k < m
      · have d1 : decide ((k : Int) < h) = true := decide_eq_true (by omega)
        have HN : Hid (fadeN (halfF a) (m - (k + 1)) = z ∧ halfF a < 9218868437227405312) := Lib.hid ⟨by rw [← hfz, show m - k = m - (k + 1) + 1 by omega]; rfl, Nat.lt_of_le_of_lt (halfF_le a) ha⟩
        have HH : ∀ (t : TypeId) (W : World), (binOp .quo t (.float .f64 a) (.float .f64 4611686018427387904)).run Try.prog W = .ok (.float .f64 (halfF a)) W := fun t W => run_fby2 ha
        clear hfz
        go_wp2
        go_roundw
        case rel => exact ⟨k + 1, _, by omega, by go_num, rfl, HN.out.2, HN.out.1, HBZ.out⟩
        case measure => simp [intOf] <;> omega
      · have hkm : k = m := by omega
        have hz' : a = z := by rw [← hfz, show m - k = 0 by omega]; rfl
        have d1 : decide ((k : Int) < h) = false := decide_eq_false (by omega)
        have d2 : decide ((k : Int) < h) = false := decide_eq_false (by omega)
        clear hfz hkm hlt
        go_wp2
        go_ret
        rw [hz']
        exact ⟨rfl, HBZ.out⟩
  · have hm1 : m = 4096 := by omega
    clear hmin
    have hm2 : m ≤ 4096 ∧ 4096 ≤ m := by omega
    clear hm1
    go_enter Try.func12, Try.ntmps12
    go_wp2_with fail
    refine (clean_any x w HX.out).mono ?_
    rintro e w1 ⟨rfl, hb⟩
    have HBq := Lib.hid (HB.out.trans (hb.mono HB.out.size))
    clear HB
    have HB := HBq
    clear HBq
    clear hb
    go_wp2
    go_loopw [0, 9] (fun xv iv wr => ∃ (k a : Nat), k ≤ m ∧ iv = .int .i64 k ∧ xv = .float .f64 a ∧ a < 9218868437227405312 ∧ fadeN a (m - k) = z ∧ Below w.heap.size w wr) (fun _ iv _ => m - (intOf iv).toNat)
    case atStart => exact ⟨0, cleanF x, Nat.zero_le _, rfl, rfl, HCL.out, HZ.out, HB.out⟩
    case round =>
      obtain ⟨k, a, hk, rfl, rfl, ha, hfz, hb⟩ := hrel
      have HBZ := Lib.hid hb
      clear hb
      by_cases hlt : k < m
      · have d1 : decide (k < 4096) = true := decide_eq_true (by omega)
        have HN : Hid (fadeN (halfF a) (m - (k + 1)) = z ∧ halfF a < 9218868437227405312) := Lib.hid ⟨by rw [← hfz, show m - k = m - (k + 1) + 1 by omega]; rfl, Nat.lt_of_le_of_lt (halfF_le a) ha⟩
        have HH : ∀ (t : TypeId) (W : World), (binOp .quo t (.float .f64 a) (.float .f64 4611686018427387904)).run Try.prog W = .ok (.float .f64 (halfF a)) W := fun t W => run_fby2 ha
        clear hfz
        go_wp2
        go_roundw
        case rel => exact ⟨k + 1, _, by omega, by go_num, rfl, HN.out.2, HN.out.1, HBZ.out⟩
        case measure => simp [intOf] <;> omega
      · have hkm : k = m := by omega
        have hz' : a = z := by rw [← hfz, show m - k = 0 by omega]; rfl
        have d1 : decide (k < 4096) = false := decide_eq_false (by omega)
        have d2 : decide ((k : Int) < 4096) = false := decide_eq_false (by omega)
        clear hfz hkm hlt
        go_wp2
        go_ret
        rw [hz']
        exact ⟨rfl, HBZ.out⟩
set_option maxRecDepth 100000 in
set_option maxHeartbeats 8000000 in
theorem sum_any (A : Option Addr) (n c : Nat) (l : List Nat) (w : World) (hl : FAsk w A n c l) : Calls Try.prog 14 #[.slice A n c] w fun e w' => e = .returned (.float .f64 (sumF l)) ∧ Below w.heap.size w w' := by
  have LA := Lib.hid hl
  have HLN := Lib.hid hl.len
  have HMX := hl.few
  unfold maxLen at HMX
  obtain ⟨z, hz⟩ : ∃ z, sumF l = z := ⟨_, rfl⟩
  rw [hz]
  have HZ := Lib.hid hz
  clear hl hz
  go_enter Try.func14, Try.ntmps14
  go_wp2
  go_loopw [3, 8] (fun xv iv wr => ∃ (k a : Nat), k ≤ n ∧ iv = .int .i64 k ∧ xv = .float .f64 a ∧ a < 9218868437227405312 ∧ (l.take k).foldl plusF 0 = a ∧ Below w.heap.size w wr) (fun _ iv _ => n - (intOf iv).toNat)
  case atStart => exact ⟨0, 0, Nat.zero_le _, rfl, rfl, by decide, rfl, Below.refl _ _⟩
  case round =>
    obtain ⟨k, a, hk, rfl, rfl, ha, hfz, hb⟩ := hrel
    have LB := Lib.hid (LA.out.next hb)
    have HBZ := Lib.hid hb
    clear hb
    by_cases hlt : k < n
    · obtain ⟨b, off, hA, hbl, hc, hx64⟩ := LB.out.one hlt
      subst hA
      have HN : Hid ((l.take (k + 1)).foldl plusF 0 = plusF a (l.getD k 0)) := Lib.hid (by
        have hkl : k < l.length := by rw [HLN.out]; exact hlt
        rw [List.take_succ_eq_append_getElem hkl, List.foldl_append, hfz, show l.getD k 0 = l[k] by rw [List.getD, List.getElem?_eq_getElem hkl]; rfl]
        rfl)
      obtain ⟨x, hx⟩ : ∃ x, l.getD k 0 = x := ⟨_, rfl⟩
      rw [hx] at hc hx64 HN
      have HX := Lib.hid hx64
      clear hx hx64 hfz
      have HADD : ∀ (t : TypeId) (W : World), (binOp .add t (.float .f64 a) (.float .f64 (cleanF x))).run Try.prog W = .ok (.float .f64 (nearF (valF a + valF (cleanF x)) 0)) W := fun t W => run_fadd ha (cleanF_lt x)
      go_wp2_with fail
      refine (clean_any x _ HX.out).mono ?_
      rintro e w2 ⟨rfl, hb⟩
      have HBZq := Lib.hid (HBZ.out.trans (hb.mono HBZ.out.size))
      clear HBZ
      have HBZ := HBZq
      clear HBZq
      clear hb hc
      go_wp2_with fail
      refine (clean_any _ _ (w64_le (near_inf _ _))).mono ?_
      rintro e w3 ⟨rfl, hb⟩
      have HBZq := Lib.hid (HBZ.out.trans (hb.mono HBZ.out.size))
      clear HBZ
      have HBZ := HBZq
      clear HBZq
      clear hb
      go_wp2
      go_roundw
      case rel => exact ⟨k + 1, _, by omega, by go_num, rfl, plusF_lt a x, HN.out, HBZ.out⟩
      case measure => simp [intOf] <;> omega
    · have hkn : k = n := by omega
      have hz' : a = z := by rw [← hfz, ← HZ.out, List.take_of_length_le (by rw [HLN.out]; omega)]; rfl
      clear hfz hkn
      go_wp2
      go_ret
      rw [hz']
      exact ⟨rfl, HBZ.out⟩
set_option maxRecDepth 100000 in
set_option maxHeartbeats 8000000 in
theorem share_any (u : Us) (w : World) (hu : UsOk u) : Calls Try.prog 16 #[.agg #[.int .i64 u.who, .float .f64 u.had, .float .f64 u.weight]] w fun e w' => e = .returned (.float .f64 (shareU u)) ∧ Below w.heap.size w w' := by
  have hb0 : Below w.heap.size w (w.alloc (.cells #[.int .i64 u.who, .float .f64 u.had, .float .f64 u.weight] 25)) := (Below.refl _ _).alloc (Nat.le_refl _) _
  have BU : Hid (BoxU (w.alloc (.cells #[.int .i64 u.who, .float .f64 u.had, .float .f64 u.weight] 25)) w.heap.size u) := Lib.hid (boxU_new w u)
  have HB := Lib.hid hb0
  have HU := Lib.hid hu
  have hle := cleanF_lt u.had
  have hlw := cleanF_lt u.weight
  have q1 := BU.out.c1
  have q2 := BU.out.c2
  clear hb0 hu
  by_cases h0 : cleanF u.had = 0
  · have e : shareU u = 0 := by unfold shareU shareF; rw [if_pos h0]
    rw [e]
    have ez : (FloatKind.f64.format.order (cleanF u.had) 0 == some Ordering.eq) = true := by rw [feq (Nat.le_of_lt hle) (by decide)]; exact decide_eq_true h0
    clear h0 e
    clear hle hlw
    go_enter Try.func16, Try.ntmps16
    go_wp2
    have HKEEP : Hid (∀ wx, Below (w.alloc (.cells #[.int .i64 u.who, .float .f64 u.had, .float .f64 u.weight] 25)).drew.heap.size (w.alloc (.cells #[.int .i64 u.who, .float .f64 u.had, .float .f64 u.weight] 25)).drew wx → wx.cell? ⟨w.heap.size, 1, none⟩ = some (.float .f64 u.had) ∧ wx.cell? ⟨w.heap.size, 2, none⟩ = some (.float .f64 u.weight)) := Lib.hid (fun wx hz' => by
      have hz := (bel_drew1 (w.alloc (.cells #[.int .i64 u.who, .float .f64 u.had, .float .f64 u.weight] 25))).trans (hz'.mono (bel_drew1 (w.alloc (.cells #[.int .i64 u.who, .float .f64 u.had, .float .f64 u.weight] 25))).size)
      exact ⟨keep_cell BU.out.lt q1 hz, keep_cell BU.out.lt q2 hz⟩)
    have hd := bel_drew1 (w.alloc (.cells #[.int .i64 u.who, .float .f64 u.had, .float .f64 u.weight] 25))
    have HBq := Lib.hid (HB.out.trans (hd.mono HB.out.size))
    clear HB
    have HB := HBq
    clear HBq
    have BUq := Lib.hid (BU.out.next hd)
    clear BU
    have BU := BUq
    clear BUq
    clear hd
    have HY := Lib.hid (Below.refl (w.alloc (.cells #[.int .i64 u.who, .float .f64 u.had, .float .f64 u.weight] 25)).drew.heap.size (w.alloc (.cells #[.int .i64 u.who, .float .f64 u.had, .float .f64 u.weight] 25)).drew)
    go_region_held3 (fun w' => w'.cell? ⟨w.heap.size, 1, none⟩ = some (.float .f64 u.had) ∧ w'.cell? ⟨w.heap.size, 2, none⟩ = some (.float .f64 u.weight))
      (first | exact HKEEP.out _ (Below.refl _ _) | exact HKEEP.out _ HY.out | exact HKEEP.out _ (HY.out.alloc HY.out.size _) | go_keep | fail)
      (first | (go_at_call 10; (with_reducible refine (clean_any u.had (w.alloc (.cells #[.int .i64 u.who, .float .f64 u.had, .float .f64 u.weight] 25)).drew HU.out.had).mono ?_); rintro e w1 ⟨rfl, hb⟩; have HY := Lib.hid (HY.out.trans (hb.mono HY.out.size)); have HB := Lib.hid (HB.out.trans (hb.mono HB.out.size)); have BU := Lib.hid (BU.out.next hb); clear hb) | (go_at_call 10; (with_reducible refine (clean_any u.weight w1 HU.out.weight).mono ?_); rintro e w2 ⟨rfl, hb⟩; have HY := Lib.hid (HY.out.trans (hb.mono HY.out.size)); have HB := Lib.hid (HB.out.trans (hb.mono HB.out.size)); have BU := Lib.hid (BU.out.next hb); clear hb) | fail)
    clear HKEEP HY
    go_wp2
    go_ret
    exact ⟨rfl, HB.out⟩
  · have ez : (FloatKind.f64.format.order (cleanF u.had) 0 == some Ordering.eq) = false := by rw [feq (Nat.le_of_lt hle) (by decide)]; exact decide_eq_false h0
    have ew := feq (Nat.le_of_lt hlw) (b := 0) (by decide)
    by_cases h1 : cleanF u.weight = 0
    · rw [decide_eq_true h1] at ew
      have e : shareU u = 9218868437227405312 := by
        unfold shareU shareF
        rw [if_neg h0, h1, div_zero hle h0]; rfl
      rw [e]
      clear hle hlw h0 h1 e
      go_enter Try.func16, Try.ntmps16
      go_wp2
      have HKEEP : Hid (∀ wx, Below (w.alloc (.cells #[.int .i64 u.who, .float .f64 u.had, .float .f64 u.weight] 25)).drew.heap.size (w.alloc (.cells #[.int .i64 u.who, .float .f64 u.had, .float .f64 u.weight] 25)).drew wx → wx.cell? ⟨w.heap.size, 1, none⟩ = some (.float .f64 u.had) ∧ wx.cell? ⟨w.heap.size, 2, none⟩ = some (.float .f64 u.weight)) := Lib.hid (fun wx hz' => by
        have hz := (bel_drew1 (w.alloc (.cells #[.int .i64 u.who, .float .f64 u.had, .float .f64 u.weight] 25))).trans (hz'.mono (bel_drew1 (w.alloc (.cells #[.int .i64 u.who, .float .f64 u.had, .float .f64 u.weight] 25))).size)
        exact ⟨keep_cell BU.out.lt q1 hz, keep_cell BU.out.lt q2 hz⟩)
      have hd := bel_drew1 (w.alloc (.cells #[.int .i64 u.who, .float .f64 u.had, .float .f64 u.weight] 25))
      have HBq := Lib.hid (HB.out.trans (hd.mono HB.out.size))
      clear HB
      have HB := HBq
      clear HBq
      have BUq := Lib.hid (BU.out.next hd)
      clear BU
      have BU := BUq
      clear BUq
      clear hd
      have HY := Lib.hid (Below.refl (w.alloc (.cells #[.int .i64 u.who, .float .f64 u.had, .float .f64 u.weight] 25)).drew.heap.size (w.alloc (.cells #[.int .i64 u.who, .float .f64 u.had, .float .f64 u.weight] 25)).drew)
      go_region_held3 (fun w' => w'.cell? ⟨w.heap.size, 1, none⟩ = some (.float .f64 u.had) ∧ w'.cell? ⟨w.heap.size, 2, none⟩ = some (.float .f64 u.weight))
        (first | exact HKEEP.out _ (Below.refl _ _) | exact HKEEP.out _ HY.out | exact HKEEP.out _ (HY.out.alloc HY.out.size _) | go_keep | fail)
        (first | (go_at_call 10; (with_reducible refine (clean_any u.had (w.alloc (.cells #[.int .i64 u.who, .float .f64 u.had, .float .f64 u.weight] 25)).drew HU.out.had).mono ?_); rintro e w1 ⟨rfl, hb⟩; have HY := Lib.hid (HY.out.trans (hb.mono HY.out.size)); have HB := Lib.hid (HB.out.trans (hb.mono HB.out.size)); have BU := Lib.hid (BU.out.next hb); clear hb) | (go_at_call 10; (with_reducible refine (clean_any u.weight w1 HU.out.weight).mono ?_); rintro e w2 ⟨rfl, hb⟩; have HY := Lib.hid (HY.out.trans (hb.mono HY.out.size)); have HB := Lib.hid (HB.out.trans (hb.mono HB.out.size)); have BU := Lib.hid (BU.out.next hb); clear hb) | fail)
      clear HKEEP HY
      go_wp2_with fail
      refine (inf_any _).mono ?_
      rintro e w9 ⟨rfl, hb⟩
      have HBq := Lib.hid (HB.out.trans (hb.mono HB.out.size))
      clear HB
      have HB := HBq
      clear HBq
      clear hb
      go_wp2
      go_ret
      exact ⟨rfl, HB.out⟩
    · rw [decide_eq_false h1] at ew
      have HD : Hid (∀ (t : TypeId) (W : World), (binOp .quo t (.float .f64 (cleanF u.had)) (.float .f64 (cleanF u.weight))).run Try.prog W = .ok (.float .f64 (shareU u)) W) := Lib.hid (fun t W => run_fdiv hle (cleanF_lt _) h0)
      clear hle hlw h0 h1
      go_enter Try.func16, Try.ntmps16
      go_wp2
      have HKEEP : Hid (∀ wx, Below (w.alloc (.cells #[.int .i64 u.who, .float .f64 u.had, .float .f64 u.weight] 25)).drew.heap.size (w.alloc (.cells #[.int .i64 u.who, .float .f64 u.had, .float .f64 u.weight] 25)).drew wx → wx.cell? ⟨w.heap.size, 1, none⟩ = some (.float .f64 u.had) ∧ wx.cell? ⟨w.heap.size, 2, none⟩ = some (.float .f64 u.weight)) := Lib.hid (fun wx hz' => by
        have hz := (bel_drew1 (w.alloc (.cells #[.int .i64 u.who, .float .f64 u.had, .float .f64 u.weight] 25))).trans (hz'.mono (bel_drew1 (w.alloc (.cells #[.int .i64 u.who, .float .f64 u.had, .float .f64 u.weight] 25))).size)
        exact ⟨keep_cell BU.out.lt q1 hz, keep_cell BU.out.lt q2 hz⟩)
      have hd := bel_drew1 (w.alloc (.cells #[.int .i64 u.who, .float .f64 u.had, .float .f64 u.weight] 25))
      have HBq := Lib.hid (HB.out.trans (hd.mono HB.out.size))
      clear HB
      have HB := HBq
      clear HBq
      have BUq := Lib.hid (BU.out.next hd)
      clear BU
      have BU := BUq
      clear BUq
      clear hd
      have HY := Lib.hid (Below.refl (w.alloc (.cells #[.int .i64 u.who, .float .f64 u.had, .float .f64 u.weight] 25)).drew.heap.size (w.alloc (.cells #[.int .i64 u.who, .float .f64 u.had, .float .f64 u.weight] 25)).drew)
      go_region_held3 (fun w' => w'.cell? ⟨w.heap.size, 1, none⟩ = some (.float .f64 u.had) ∧ w'.cell? ⟨w.heap.size, 2, none⟩ = some (.float .f64 u.weight))
        (first | exact HKEEP.out _ (Below.refl _ _) | exact HKEEP.out _ HY.out | exact HKEEP.out _ (HY.out.alloc HY.out.size _) | go_keep | fail)
        (first | (go_at_call 10; (with_reducible refine (clean_any u.had (w.alloc (.cells #[.int .i64 u.who, .float .f64 u.had, .float .f64 u.weight] 25)).drew HU.out.had).mono ?_); rintro e w1 ⟨rfl, hb⟩; have HY := Lib.hid (HY.out.trans (hb.mono HY.out.size)); have HB := Lib.hid (HB.out.trans (hb.mono HB.out.size)); have BU := Lib.hid (BU.out.next hb); clear hb) | (go_at_call 10; (with_reducible refine (clean_any u.weight w1 HU.out.weight).mono ?_); rintro e w2 ⟨rfl, hb⟩; have HY := Lib.hid (HY.out.trans (hb.mono HY.out.size)); have HB := Lib.hid (HB.out.trans (hb.mono HB.out.size)); have BU := Lib.hid (BU.out.next hb); clear hb) | fail)
      clear HKEEP HY
      have HDD := HD.out
      go_wp2
      go_ret
      exact ⟨rfl, HB.out⟩

end Go.Proofs.Ytaehhafdodoljaa
