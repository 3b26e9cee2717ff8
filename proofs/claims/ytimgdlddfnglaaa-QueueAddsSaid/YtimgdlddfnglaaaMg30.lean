/- Go's slices.symMergeCmpFunc of jobs: where one part is a single job. Written by gen/gen_queuesort.py. -/
import Derived.Test.YtimgdlddfnglaaaMg29
namespace Go.Proofs.Ytimgdlddfnglaaa
open Go.RowKit

set_option maxRecDepth 100000 in
set_option maxHeartbeats 8000000 in
theorem sym_left (w0 : World) (g n cap a m b : Nat) (f : JF) (w : World) (hr : RowF w0 g n cap f w) (hn : n ≤ 1000) (ham : a < m) (hmb : m < b) (hbn : b ≤ n) (h1 : SrtB f a m) (h2 : SrtB f m b) (hc : CrossB f a m b) (h1m : m = a + 1) :
    Calls Try.prog 61 #[.slice (some ⟨g, 0, none⟩) n cap, .int .i64 a, .int .i64 m, .int .i64 b, .func (.func 27) #[] #[]] w (fun e w' => e = .returned (.tuple #[]) ∧ ∃ f', SameIn f f' a b ∧ SrtB f' a b ∧ RowF w0 g n cap f' w') := by
  have HR := Lib.hid hr
  have H1 := Lib.hid h1
  have H2 := Lib.hid h2
  have HC := Lib.hid hc
  have eg := eg_urg
  have mixed : Try.prog.follows .mixedOrders = true := by kernel_rfl
  clear hr h1 h2 hc
  subst h1m
  obtain ⟨x, hx⟩ : ∃ x, f a = x := ⟨_, rfl⟩
  have HX := Lib.hid hx
  have HXD : Hid (∀ q, a + 1 ≤ q → q < b → x.id < (f q).id) := Lib.hid (fun q p1 p2 => by rw [← hx]; exact HC.out a q (Nat.le_refl _) (by omega) p1 p2)
  have han : a < n := by omega
  clear hx
  go_enter Try.func61, Try.ntmps61
  go_wp2_with fail
  go_loopg [10, 11] b (fun kx vi vj wr => ∃ (lo hi : Nat), vi = .int .i64 lo ∧ vj = .int .i64 hi ∧ a + 1 ≤ lo ∧ lo ≤ hi ∧ hi ≤ b ∧ hi - lo ≤ kx ∧ (lo = a + 1 ∨ Before (f (lo - 1)) x) ∧ (hi = b ∨ Before x (f hi)) ∧ RowF w0 g n cap f wr)
  case atStart => exact ⟨a + 1, b, by go_num, rfl, Nat.le_refl _, by omega, Nat.le_refl _, by omega, .inl rfl, .inl rfl, HR.out⟩
  case round =>
    clear HR
    obtain ⟨lo, hi, rfl, rfl, hlo, hlh, hhi, hkx, hl1, hl2, hrow⟩ := hrel
    have HL1 := Lib.hid hl1
    have HL2 := Lib.hid hl2
    have HK := Lib.hid hrow
    clear hl1 hl2 hrow
    by_cases hlt : lo < hi
    · obtain ⟨h, hh⟩ : ∃ h : Nat, (lo + hi) / 2 = h := ⟨_, rfl⟩
      have hh1 : lo ≤ h ∧ h < hi := by omega
      have e1' : ((lo : Int) + (hi : Int)) / 2 = (h : Int) := by omega
      have hhn : h < n := by omega
      have hhz : (h : Int) < (n : Int) := by omega
      obtain ⟨y, hy⟩ : ∃ y, f h = y := ⟨_, rfl⟩
      have HY := Lib.hid hy
      have HXY : Hid (x.id < y.id) := Lib.hid (by rw [← hy]; exact HXD.out h (by omega) (by omega))
      clear hh hy
      have hgl := HK.out.lt.2
      obtain ⟨A3, m3, c3, ⟨e0, e1, e2, e3, e4, e5, e6, e7, e8, e9, e10, e11, e12⟩, hey⟩ := HK.out.at (k := h) hhn
      obtain ⟨A4, m4, c4, ⟨o0, o1, o2, o3, o4, o5, o6, o7, o8, o9, o10, o11, o12⟩, hex⟩ := HK.out.at (k := a) han
      rw [HY.out] at hey e0 e1 e2 e3 e4 e5 e6 e7 e9 e10 e11 e12
      rw [HX.out] at hex o0 o1 o2 o3 o4 o5 o6 o7 o9 o10 o11 o12
      clear hex hey
      have hul := urg_lt y x
      obtain ⟨r, hrr⟩ : ∃ r, cmp3 x.spec.prio y.spec.prio = r := ⟨_, rfl⟩
      rw [hrr] at hul
      have RR := Lib.hid hrr
      clear hrr
      by_cases hu : UrgB y x
      · rw [decide_eq_true hu] at hul
        have HN : Hid (h + 1 = a + 1 ∨ Before (f (h + 1 - 1)) x) := Lib.hid (.inr (by rw [Nat.add_sub_cancel, HY.out]; exact (urg_before HXY.out).1 hu))
        clear hu
        go_wp2_with fail
        have zc0 : ∀ p : Later wr, p.now.cell? ⟨g, h * 13, none⟩ = some (.int .i64 y.id) := fun _ => Later.cell hgl e0
        have zc1 : ∀ p : Later wr, p.now.cell? ⟨g, h * 13 + 1, none⟩ = some (.int .i64 y.spec.nodes) := fun _ => Later.cell hgl e1
        have zc2 : ∀ p : Later wr, p.now.cell? ⟨g, h * 13 + 2, none⟩ = some (.int .i64 y.spec.cores) := fun _ => Later.cell hgl e2
        have zc3 : ∀ p : Later wr, p.now.cell? ⟨g, h * 13 + 3, none⟩ = some (.int .i64 y.spec.gpus) := fun _ => Later.cell hgl e3
        have zc4 : ∀ p : Later wr, p.now.cell? ⟨g, h * 13 + 4, none⟩ = some (.string y.spec.tag) := fun _ => Later.cell hgl e4
        have zc5 : ∀ p : Later wr, p.now.cell? ⟨g, h * 13 + 5, none⟩ = some (.bool y.spec.whole) := fun _ => Later.cell hgl e5
        have zc6 : ∀ p : Later wr, p.now.cell? ⟨g, h * 13 + 6, none⟩ = some (.int .i64 y.spec.long) := fun _ => Later.cell hgl e6
        have zc7 : ∀ p : Later wr, p.now.cell? ⟨g, h * 13 + 7, none⟩ = some (.int .i64 y.spec.prio) := fun _ => Later.cell hgl e7
        have zc8 : ∀ p : Later wr, p.now.cell? ⟨g, h * 13 + 8, none⟩ = some (.slice A3 m3 c3) := fun _ => Later.cell hgl e8
        have zc9 : ∀ p : Later wr, p.now.cell? ⟨g, h * 13 + 9, none⟩ = some (.int .i64 y.state) := fun _ => Later.cell hgl e9
        have zc10 : ∀ p : Later wr, p.now.cell? ⟨g, h * 13 + 10, none⟩ = some (.int .i64 y.came) := fun _ => Later.cell hgl e10
        have zc11 : ∀ p : Later wr, p.now.cell? ⟨g, h * 13 + 11, none⟩ = some (.int .i64 y.frm) := fun _ => Later.cell hgl e11
        have zc12 : ∀ p : Later wr, p.now.cell? ⟨g, h * 13 + 12, none⟩ = some (.int .i64 y.to) := fun _ => Later.cell hgl e12
        have zc13 : ∀ p : Later wr, p.now.cell? ⟨g, a * 13, none⟩ = some (.int .i64 x.id) := fun _ => Later.cell hgl o0
        have zc14 : ∀ p : Later wr, p.now.cell? ⟨g, a * 13 + 1, none⟩ = some (.int .i64 x.spec.nodes) := fun _ => Later.cell hgl o1
        have zc15 : ∀ p : Later wr, p.now.cell? ⟨g, a * 13 + 2, none⟩ = some (.int .i64 x.spec.cores) := fun _ => Later.cell hgl o2
        have zc16 : ∀ p : Later wr, p.now.cell? ⟨g, a * 13 + 3, none⟩ = some (.int .i64 x.spec.gpus) := fun _ => Later.cell hgl o3
        have zc17 : ∀ p : Later wr, p.now.cell? ⟨g, a * 13 + 4, none⟩ = some (.string x.spec.tag) := fun _ => Later.cell hgl o4
        have zc18 : ∀ p : Later wr, p.now.cell? ⟨g, a * 13 + 5, none⟩ = some (.bool x.spec.whole) := fun _ => Later.cell hgl o5
        have zc19 : ∀ p : Later wr, p.now.cell? ⟨g, a * 13 + 6, none⟩ = some (.int .i64 x.spec.long) := fun _ => Later.cell hgl o6
        have zc20 : ∀ p : Later wr, p.now.cell? ⟨g, a * 13 + 7, none⟩ = some (.int .i64 x.spec.prio) := fun _ => Later.cell hgl o7
        have zc21 : ∀ p : Later wr, p.now.cell? ⟨g, a * 13 + 8, none⟩ = some (.slice A4 m4 c4) := fun _ => Later.cell hgl o8
        have zc22 : ∀ p : Later wr, p.now.cell? ⟨g, a * 13 + 9, none⟩ = some (.int .i64 x.state) := fun _ => Later.cell hgl o9
        have zc23 : ∀ p : Later wr, p.now.cell? ⟨g, a * 13 + 10, none⟩ = some (.int .i64 x.came) := fun _ => Later.cell hgl o10
        have zc24 : ∀ p : Later wr, p.now.cell? ⟨g, a * 13 + 11, none⟩ = some (.int .i64 x.frm) := fun _ => Later.cell hgl o11
        have zc25 : ∀ p : Later wr, p.now.cell? ⟨g, a * 13 + 12, none⟩ = some (.int .i64 x.to) := fun _ => Later.cell hgl o12
        refine wp_region_later (by kernel_rfl) (by kernel_rfl) ?_
        repeat (first | go_big_quiet_skip | (go_big_quiet_want; go_big_quiet_op; first | go_big_quiet_on | (apply Exists.intro; refine ⟨fun pz => ?_, ?_⟩; (first | (go_at_call 27; exact Calls.later_of (urg_b RR.out)) | fail); go_big_quiet_on)))
        refine wpQuiet_nil ?_
        intro _ hw'
        obtain ⟨pz, rfl⟩ := hw'
        obtain ⟨w5, hb⟩ := pz
        try dsimp only
        clear zc0 zc1 zc2 zc3 zc4 zc5 zc6 zc7 zc8 zc9 zc10 zc11 zc12 zc13 zc14 zc15 zc16 zc17 zc18 zc19 zc20 zc21 zc22 zc23 zc24 zc25
        have HKq := Lib.hid (HK.out.next hb)
        clear HK
        have HK := HKq
        clear HKq
        clear hb
        clear e0 e1 e2 e3 e4 e5 e6 e7 e8 e9 e10 e11 e12 o0 o1 o2 o3 o4 o5 o6 o7 o8 o9 o10 o11 o12 hgl
        go_wp2_with fail
        go_roundg (hi - (h + 1))
        case measure => omega
        case rel => exact ⟨h + 1, hi, by go_num, rfl, by omega, by omega, hhi, Nat.le_refl _, HN.out, HL2.out, HK.out⟩
      · rw [decide_eq_false hu] at hul
        have HN : Hid (h = b ∨ Before x (f h)) := Lib.hid (.inr (by rw [HY.out]; exact (urg_not HXY.out).1 hu))
        clear hu
        go_wp2_with fail
        have zc0 : ∀ p : Later wr, p.now.cell? ⟨g, h * 13, none⟩ = some (.int .i64 y.id) := fun _ => Later.cell hgl e0
        have zc1 : ∀ p : Later wr, p.now.cell? ⟨g, h * 13 + 1, none⟩ = some (.int .i64 y.spec.nodes) := fun _ => Later.cell hgl e1
        have zc2 : ∀ p : Later wr, p.now.cell? ⟨g, h * 13 + 2, none⟩ = some (.int .i64 y.spec.cores) := fun _ => Later.cell hgl e2
        have zc3 : ∀ p : Later wr, p.now.cell? ⟨g, h * 13 + 3, none⟩ = some (.int .i64 y.spec.gpus) := fun _ => Later.cell hgl e3
        have zc4 : ∀ p : Later wr, p.now.cell? ⟨g, h * 13 + 4, none⟩ = some (.string y.spec.tag) := fun _ => Later.cell hgl e4
        have zc5 : ∀ p : Later wr, p.now.cell? ⟨g, h * 13 + 5, none⟩ = some (.bool y.spec.whole) := fun _ => Later.cell hgl e5
        have zc6 : ∀ p : Later wr, p.now.cell? ⟨g, h * 13 + 6, none⟩ = some (.int .i64 y.spec.long) := fun _ => Later.cell hgl e6
        have zc7 : ∀ p : Later wr, p.now.cell? ⟨g, h * 13 + 7, none⟩ = some (.int .i64 y.spec.prio) := fun _ => Later.cell hgl e7
        have zc8 : ∀ p : Later wr, p.now.cell? ⟨g, h * 13 + 8, none⟩ = some (.slice A3 m3 c3) := fun _ => Later.cell hgl e8
        have zc9 : ∀ p : Later wr, p.now.cell? ⟨g, h * 13 + 9, none⟩ = some (.int .i64 y.state) := fun _ => Later.cell hgl e9
        have zc10 : ∀ p : Later wr, p.now.cell? ⟨g, h * 13 + 10, none⟩ = some (.int .i64 y.came) := fun _ => Later.cell hgl e10
        have zc11 : ∀ p : Later wr, p.now.cell? ⟨g, h * 13 + 11, none⟩ = some (.int .i64 y.frm) := fun _ => Later.cell hgl e11
        have zc12 : ∀ p : Later wr, p.now.cell? ⟨g, h * 13 + 12, none⟩ = some (.int .i64 y.to) := fun _ => Later.cell hgl e12
        have zc13 : ∀ p : Later wr, p.now.cell? ⟨g, a * 13, none⟩ = some (.int .i64 x.id) := fun _ => Later.cell hgl o0
        have zc14 : ∀ p : Later wr, p.now.cell? ⟨g, a * 13 + 1, none⟩ = some (.int .i64 x.spec.nodes) := fun _ => Later.cell hgl o1
        have zc15 : ∀ p : Later wr, p.now.cell? ⟨g, a * 13 + 2, none⟩ = some (.int .i64 x.spec.cores) := fun _ => Later.cell hgl o2
        have zc16 : ∀ p : Later wr, p.now.cell? ⟨g, a * 13 + 3, none⟩ = some (.int .i64 x.spec.gpus) := fun _ => Later.cell hgl o3
        have zc17 : ∀ p : Later wr, p.now.cell? ⟨g, a * 13 + 4, none⟩ = some (.string x.spec.tag) := fun _ => Later.cell hgl o4
        have zc18 : ∀ p : Later wr, p.now.cell? ⟨g, a * 13 + 5, none⟩ = some (.bool x.spec.whole) := fun _ => Later.cell hgl o5
        have zc19 : ∀ p : Later wr, p.now.cell? ⟨g, a * 13 + 6, none⟩ = some (.int .i64 x.spec.long) := fun _ => Later.cell hgl o6
        have zc20 : ∀ p : Later wr, p.now.cell? ⟨g, a * 13 + 7, none⟩ = some (.int .i64 x.spec.prio) := fun _ => Later.cell hgl o7
        have zc21 : ∀ p : Later wr, p.now.cell? ⟨g, a * 13 + 8, none⟩ = some (.slice A4 m4 c4) := fun _ => Later.cell hgl o8
        have zc22 : ∀ p : Later wr, p.now.cell? ⟨g, a * 13 + 9, none⟩ = some (.int .i64 x.state) := fun _ => Later.cell hgl o9
        have zc23 : ∀ p : Later wr, p.now.cell? ⟨g, a * 13 + 10, none⟩ = some (.int .i64 x.came) := fun _ => Later.cell hgl o10
        have zc24 : ∀ p : Later wr, p.now.cell? ⟨g, a * 13 + 11, none⟩ = some (.int .i64 x.frm) := fun _ => Later.cell hgl o11
        have zc25 : ∀ p : Later wr, p.now.cell? ⟨g, a * 13 + 12, none⟩ = some (.int .i64 x.to) := fun _ => Later.cell hgl o12
        refine wp_region_later (by kernel_rfl) (by kernel_rfl) ?_
        repeat (first | go_big_quiet_skip | (go_big_quiet_want; go_big_quiet_op; first | go_big_quiet_on | (apply Exists.intro; refine ⟨fun pz => ?_, ?_⟩; (first | (go_at_call 27; exact Calls.later_of (urg_b RR.out)) | fail); go_big_quiet_on)))
        refine wpQuiet_nil ?_
        intro _ hw'
        obtain ⟨pz, rfl⟩ := hw'
        obtain ⟨w5, hb⟩ := pz
        try dsimp only
        clear zc0 zc1 zc2 zc3 zc4 zc5 zc6 zc7 zc8 zc9 zc10 zc11 zc12 zc13 zc14 zc15 zc16 zc17 zc18 zc19 zc20 zc21 zc22 zc23 zc24 zc25
        have HKq := Lib.hid (HK.out.next hb)
        clear HK
        have HK := HKq
        clear HKq
        clear hb
        clear e0 e1 e2 e3 e4 e5 e6 e7 e8 e9 e10 e11 e12 o0 o1 o2 o3 o4 o5 o6 o7 o8 o9 o10 o11 o12 hgl
        go_wp2_with fail
        go_roundg (h - lo)
        case measure => omega
        case rel => exact ⟨lo, h, rfl, rfl, hlo, by omega, by omega, Nat.le_refl _, HL1.out, HN.out, HK.out⟩
    · obtain rfl : hi = lo := by omega
      clear hlt hlh
      go_wp2_with fail
      go_loopg [13] (hi - a) (fun kx vk wr => ∃ (k : Nat) (f1 : JF), vk = .int .i64 k ∧ a ≤ k ∧ k + 1 ≤ hi ∧ hi - 1 - k ≤ kx ∧ f1 k = x ∧ (∀ q, a ≤ q → q < k → f1 q = f (q + 1)) ∧ (∀ q, q < a ∨ k < q → f1 q = f q) ∧ SameIn f f1 a b ∧ RowF w0 g n cap f1 wr)
      case atStart => exact ⟨a, f, rfl, Nat.le_refl _, by omega, by omega, HX.out, fun q p1 p2 => by omega, fun _ _ => rfl, SameIn.refl _ _ _, HK.out⟩
      case round =>
        clear HK
        obtain ⟨k, f1, rfl, hak, hki, hkk, hfk, hsh, hou, hsa, hrow⟩ := hrel
        have HFK := Lib.hid hfk
        have HSH := Lib.hid hsh
        have HOU := Lib.hid hou
        have HSA := Lib.hid hsa
        have HK := Lib.hid hrow
        clear hfk hsh hou hsa hrow
        by_cases hlk : k < hi - 1
        · have hkz : (k : Int) < (hi : Int) - 1 := by omega
          have hk0 : k < n := by omega
          have hk1 : k + 1 < n := by omega
          obtain ⟨y, hy⟩ : ∃ y, f (k + 1) = y := ⟨_, rfl⟩
          have HFY : Hid (f1 (k + 1) = y) := Lib.hid (by rw [HOU.out _ (.inr (by omega))]; exact hy)
          have HYK := Lib.hid hy
          clear hy
          go_wp2_with fail
          have hgl := HK.out.lt.2
          obtain ⟨A3, m3, c3, ⟨e0, e1, e2, e3, e4, e5, e6, e7, e8, e9, e10, e11, e12⟩, hex⟩ := HK.out.at hk0
          obtain ⟨A4, m4, c4, ⟨o0, o1, o2, o3, o4, o5, o6, o7, o8, o9, o10, o11, o12⟩, hey⟩ := HK.out.at hk1
          rw [HFK.out] at hex e0 e1 e2 e3 e4 e5 e6 e7 e9 e10 e11 e12
          rw [HFY.out] at hey o0 o1 o2 o3 o4 o5 o6 o7 o9 o10 o11 o12
          have HK6 : Hid (RowF w0 g n cap (swpF f1 (k + 1) k) (((((((((((((((((((((((((((wr.setCell ⟨g, k * 13, none⟩ (.int .i64 y.id)).setCell ⟨g, k * 13 + 1, none⟩ (.int .i64 y.spec.nodes)).setCell ⟨g, k * 13 + 2, none⟩ (.int .i64 y.spec.cores)).setCell ⟨g, k * 13 + 3, none⟩ (.int .i64 y.spec.gpus)).setCell ⟨g, k * 13 + 4, none⟩ (.string y.spec.tag)).setCell ⟨g, k * 13 + 5, none⟩ (.bool y.spec.whole)).setCell ⟨g, k * 13 + 6, none⟩ (.int .i64 y.spec.long)).setCell ⟨g, k * 13 + 7, none⟩ (.int .i64 y.spec.prio)).setCell ⟨g, k * 13 + 8, none⟩ (.slice A4 m4 c4)).setCell ⟨g, k * 13 + 9, none⟩ (.int .i64 y.state)).setCell ⟨g, k * 13 + 10, none⟩ (.int .i64 y.came)).setCell ⟨g, k * 13 + 11, none⟩ (.int .i64 y.frm)).setCell ⟨g, k * 13 + 12, none⟩ (.int .i64 y.to)).setCell ⟨g, (k + 1) * 13, none⟩ (.int .i64 x.id)).setCell ⟨g, (k + 1) * 13 + 1, none⟩ (.int .i64 x.spec.nodes)).setCell ⟨g, (k + 1) * 13 + 2, none⟩ (.int .i64 x.spec.cores)).setCell ⟨g, (k + 1) * 13 + 3, none⟩ (.int .i64 x.spec.gpus)).setCell ⟨g, (k + 1) * 13 + 4, none⟩ (.string x.spec.tag)).setCell ⟨g, (k + 1) * 13 + 5, none⟩ (.bool x.spec.whole)).setCell ⟨g, (k + 1) * 13 + 6, none⟩ (.int .i64 x.spec.long)).setCell ⟨g, (k + 1) * 13 + 7, none⟩ (.int .i64 x.spec.prio)).setCell ⟨g, (k + 1) * 13 + 8, none⟩ (.slice A3 m3 c3)).setCell ⟨g, (k + 1) * 13 + 9, none⟩ (.int .i64 x.state)).setCell ⟨g, (k + 1) * 13 + 10, none⟩ (.int .i64 x.came)).setCell ⟨g, (k + 1) * 13 + 11, none⟩ (.int .i64 x.frm)).setCell ⟨g, (k + 1) * 13 + 12, none⟩ (.int .i64 x.to)).drew)) := Lib.hid ((HK.out.swap hk0 hk1 HFK.out HFY.out hex hey).drew)
          clear hex hey
          obtain ⟨⟨u0, p0⟩, z0⟩ := HK.out.slot (q := k * 13) (by omega)
          obtain ⟨⟨t0, r0⟩, y0⟩ := HK.out.slot (q := (k + 1) * 13) (by omega)
          obtain ⟨⟨u1, p1⟩, z1⟩ := HK.out.slot (q := k * 13 + 1) (by omega)
          obtain ⟨⟨t1, r1⟩, y1⟩ := HK.out.slot (q := (k + 1) * 13 + 1) (by omega)
          obtain ⟨⟨u2, p2⟩, z2⟩ := HK.out.slot (q := k * 13 + 2) (by omega)
          obtain ⟨⟨t2, r2⟩, y2⟩ := HK.out.slot (q := (k + 1) * 13 + 2) (by omega)
          obtain ⟨⟨u3, p3⟩, z3⟩ := HK.out.slot (q := k * 13 + 3) (by omega)
          obtain ⟨⟨t3, r3⟩, y3⟩ := HK.out.slot (q := (k + 1) * 13 + 3) (by omega)
          obtain ⟨⟨u4, p4⟩, z4⟩ := HK.out.slot (q := k * 13 + 4) (by omega)
          obtain ⟨⟨t4, r4⟩, y4⟩ := HK.out.slot (q := (k + 1) * 13 + 4) (by omega)
          obtain ⟨⟨u5, p5⟩, z5⟩ := HK.out.slot (q := k * 13 + 5) (by omega)
          obtain ⟨⟨t5, r5⟩, y5⟩ := HK.out.slot (q := (k + 1) * 13 + 5) (by omega)
          obtain ⟨⟨u6, p6⟩, z6⟩ := HK.out.slot (q := k * 13 + 6) (by omega)
          obtain ⟨⟨t6, r6⟩, y6⟩ := HK.out.slot (q := (k + 1) * 13 + 6) (by omega)
          obtain ⟨⟨u7, p7⟩, z7⟩ := HK.out.slot (q := k * 13 + 7) (by omega)
          obtain ⟨⟨t7, r7⟩, y7⟩ := HK.out.slot (q := (k + 1) * 13 + 7) (by omega)
          obtain ⟨⟨u8, p8⟩, z8⟩ := HK.out.slot (q := k * 13 + 8) (by omega)
          obtain ⟨⟨t8, r8⟩, y8⟩ := HK.out.slot (q := (k + 1) * 13 + 8) (by omega)
          obtain ⟨⟨u9, p9⟩, z9⟩ := HK.out.slot (q := k * 13 + 9) (by omega)
          obtain ⟨⟨t9, r9⟩, y9⟩ := HK.out.slot (q := (k + 1) * 13 + 9) (by omega)
          obtain ⟨⟨u10, p10⟩, z10⟩ := HK.out.slot (q := k * 13 + 10) (by omega)
          obtain ⟨⟨t10, r10⟩, y10⟩ := HK.out.slot (q := (k + 1) * 13 + 10) (by omega)
          obtain ⟨⟨u11, p11⟩, z11⟩ := HK.out.slot (q := k * 13 + 11) (by omega)
          obtain ⟨⟨t11, r11⟩, y11⟩ := HK.out.slot (q := (k + 1) * 13 + 11) (by omega)
          obtain ⟨⟨u12, p12⟩, z12⟩ := HK.out.slot (q := k * 13 + 12) (by omega)
          obtain ⟨⟨t12, r12⟩, y12⟩ := HK.out.slot (q := (k + 1) * 13 + 12) (by omega)
          go_big_region_o
          all_goals go_wp2_with fail
          go_roundg (hi - 1 - (k + 1))
          case measure => omega
          case rel =>
            refine ⟨k + 1, _, by go_num, by omega, by omega, Nat.le_refl _, ?_, ?_, ?_, ?_, HK6.out⟩
            · unfold swpF; rw [if_pos rfl]; exact HFK.out
            · intro q p1 p2
              unfold swpF
              rw [if_neg (by omega)]
              by_cases h3 : q = k
              · rw [if_pos h3, HFY.out, h3, HYK.out]
              · rw [if_neg h3]; exact HSH.out q p1 (by omega)
            · intro q p1
              unfold swpF
              rw [if_neg (by omega), if_neg (by omega)]; exact HOU.out q (by omega)
            · exact HSA.out.trans (swpF_same ⟨by omega, by omega⟩ ⟨by omega, by omega⟩)
        · have hkz : ¬ (k : Int) < (hi : Int) - 1 := by omega
          have hke : k = hi - 1 := by omega
          have HS : Hid (SrtB f1 a b) := Lib.hid (insert_left (f := f) (i := hi) H2.out hlo hhi (by rw [HX.out]; exact HL1.out) (by rw [HX.out]; exact HL2.out) (fun q p1 p2 => HSH.out q p1 (by omega)) (by rw [← hke, HX.out]; exact HFK.out) (fun q p1 => HOU.out q (by omega)))
          go_wp2_with fail
          (try simp only [Exit.inBlock, Exit.then])
          refine bodyPost_ret (results_none rfl _ _ _) rfl ?_
          exact ⟨rfl, f1, HSA.out, HS.out, HK.out⟩

set_option maxRecDepth 100000 in
set_option maxHeartbeats 8000000 in
theorem sym_right (w0 : World) (g n cap a m b : Nat) (f : JF) (w : World) (hr : RowF w0 g n cap f w) (hn : n ≤ 1000) (ham : a < m) (hmb : m < b) (hbn : b ≤ n) (h1 : SrtB f a m) (h2 : SrtB f m b) (hc : CrossB f a m b) (h1m : m ≠ a + 1) (hb1 : b = m + 1) :
    Calls Try.prog 61 #[.slice (some ⟨g, 0, none⟩) n cap, .int .i64 a, .int .i64 m, .int .i64 b, .func (.func 27) #[] #[]] w (fun e w' => e = .returned (.tuple #[]) ∧ ∃ f', SameIn f f' a b ∧ SrtB f' a b ∧ RowF w0 g n cap f' w') := by
  have HR := Lib.hid hr
  have H1 := Lib.hid h1
  have H2 := Lib.hid h2
  have HC := Lib.hid hc
  have eg := eg_urg
  have mixed : Try.prog.follows .mixedOrders = true := by kernel_rfl
  clear hr h1 h2 hc
  subst hb1
  obtain ⟨y, hy⟩ : ∃ y, f m = y := ⟨_, rfl⟩
  have HY := Lib.hid hy
  have HXD : Hid (∀ q, a ≤ q → q < m → (f q).id < y.id) := Lib.hid (fun q p1 p2 => by rw [← hy]; exact HC.out q m p1 p2 (Nat.le_refl _) (by omega))
  have hmn : m < n := by omega
  have dm : (((m : Int) - (a : Int)) == 1) = false := beq_eq_false_iff_ne.2 (by omega)
  clear hy
  go_enter Try.func61, Try.ntmps61
  go_wp2_with fail
  go_loopg [14, 15] m (fun kx vi vj wr => ∃ (lo hi : Nat), vi = .int .i64 lo ∧ vj = .int .i64 hi ∧ a ≤ lo ∧ lo ≤ hi ∧ hi ≤ m ∧ hi - lo ≤ kx ∧ (lo = a ∨ Before (f (lo - 1)) y) ∧ (hi = m ∨ Before y (f hi)) ∧ RowF w0 g n cap f wr)
  case atStart => exact ⟨a, m, rfl, rfl, Nat.le_refl _, by omega, Nat.le_refl _, by omega, .inl rfl, .inl rfl, HR.out⟩
  case round =>
    clear HR
    obtain ⟨lo, hi, rfl, rfl, hlo, hlh, hhi, hkx, hl1, hl2, hrow⟩ := hrel
    have HL1 := Lib.hid hl1
    have HL2 := Lib.hid hl2
    have HK := Lib.hid hrow
    clear hl1 hl2 hrow
    by_cases hlt : lo < hi
    · obtain ⟨h, hh⟩ : ∃ h : Nat, (lo + hi) / 2 = h := ⟨_, rfl⟩
      have hh1 : lo ≤ h ∧ h < hi := by omega
      have e1' : ((lo : Int) + (hi : Int)) / 2 = (h : Int) := by omega
      have hhn : h < n := by omega
      have hhz : (h : Int) < (n : Int) := by omega
      obtain ⟨x, hx⟩ : ∃ x, f h = x := ⟨_, rfl⟩
      have HX := Lib.hid hx
      have HXY : Hid (x.id < y.id) := Lib.hid (by rw [← hx]; exact HXD.out h (by omega) (by omega))
      clear hh hx
      have hgl := HK.out.lt.2
      obtain ⟨A3, m3, c3, ⟨e0, e1, e2, e3, e4, e5, e6, e7, e8, e9, e10, e11, e12⟩, hey⟩ := HK.out.at (k := m) hmn
      obtain ⟨A4, m4, c4, ⟨o0, o1, o2, o3, o4, o5, o6, o7, o8, o9, o10, o11, o12⟩, hex⟩ := HK.out.at (k := h) hhn
      rw [HY.out] at hey e0 e1 e2 e3 e4 e5 e6 e7 e9 e10 e11 e12
      rw [HX.out] at hex o0 o1 o2 o3 o4 o5 o6 o7 o9 o10 o11 o12
      clear hex hey
      have hul := urg_lt y x
      obtain ⟨r, hrr⟩ : ∃ r, cmp3 x.spec.prio y.spec.prio = r := ⟨_, rfl⟩
      rw [hrr] at hul
      have RR := Lib.hid hrr
      clear hrr
      by_cases hu : UrgB y x
      · rw [decide_eq_true hu] at hul
        have HN : Hid (h = m ∨ Before y (f h)) := Lib.hid (.inr (by rw [HX.out]; exact (urg_before HXY.out).1 hu))
        clear hu
        go_wp2_with fail
        have zc0 : ∀ p : Later wr, p.now.cell? ⟨g, m * 13, none⟩ = some (.int .i64 y.id) := fun _ => Later.cell hgl e0
        have zc1 : ∀ p : Later wr, p.now.cell? ⟨g, m * 13 + 1, none⟩ = some (.int .i64 y.spec.nodes) := fun _ => Later.cell hgl e1
        have zc2 : ∀ p : Later wr, p.now.cell? ⟨g, m * 13 + 2, none⟩ = some (.int .i64 y.spec.cores) := fun _ => Later.cell hgl e2
        have zc3 : ∀ p : Later wr, p.now.cell? ⟨g, m * 13 + 3, none⟩ = some (.int .i64 y.spec.gpus) := fun _ => Later.cell hgl e3
        have zc4 : ∀ p : Later wr, p.now.cell? ⟨g, m * 13 + 4, none⟩ = some (.string y.spec.tag) := fun _ => Later.cell hgl e4
        have zc5 : ∀ p : Later wr, p.now.cell? ⟨g, m * 13 + 5, none⟩ = some (.bool y.spec.whole) := fun _ => Later.cell hgl e5
        have zc6 : ∀ p : Later wr, p.now.cell? ⟨g, m * 13 + 6, none⟩ = some (.int .i64 y.spec.long) := fun _ => Later.cell hgl e6
        have zc7 : ∀ p : Later wr, p.now.cell? ⟨g, m * 13 + 7, none⟩ = some (.int .i64 y.spec.prio) := fun _ => Later.cell hgl e7
        have zc8 : ∀ p : Later wr, p.now.cell? ⟨g, m * 13 + 8, none⟩ = some (.slice A3 m3 c3) := fun _ => Later.cell hgl e8
        have zc9 : ∀ p : Later wr, p.now.cell? ⟨g, m * 13 + 9, none⟩ = some (.int .i64 y.state) := fun _ => Later.cell hgl e9
        have zc10 : ∀ p : Later wr, p.now.cell? ⟨g, m * 13 + 10, none⟩ = some (.int .i64 y.came) := fun _ => Later.cell hgl e10
        have zc11 : ∀ p : Later wr, p.now.cell? ⟨g, m * 13 + 11, none⟩ = some (.int .i64 y.frm) := fun _ => Later.cell hgl e11
        have zc12 : ∀ p : Later wr, p.now.cell? ⟨g, m * 13 + 12, none⟩ = some (.int .i64 y.to) := fun _ => Later.cell hgl e12
        have zc13 : ∀ p : Later wr, p.now.cell? ⟨g, h * 13, none⟩ = some (.int .i64 x.id) := fun _ => Later.cell hgl o0
        have zc14 : ∀ p : Later wr, p.now.cell? ⟨g, h * 13 + 1, none⟩ = some (.int .i64 x.spec.nodes) := fun _ => Later.cell hgl o1
        have zc15 : ∀ p : Later wr, p.now.cell? ⟨g, h * 13 + 2, none⟩ = some (.int .i64 x.spec.cores) := fun _ => Later.cell hgl o2
        have zc16 : ∀ p : Later wr, p.now.cell? ⟨g, h * 13 + 3, none⟩ = some (.int .i64 x.spec.gpus) := fun _ => Later.cell hgl o3
        have zc17 : ∀ p : Later wr, p.now.cell? ⟨g, h * 13 + 4, none⟩ = some (.string x.spec.tag) := fun _ => Later.cell hgl o4
        have zc18 : ∀ p : Later wr, p.now.cell? ⟨g, h * 13 + 5, none⟩ = some (.bool x.spec.whole) := fun _ => Later.cell hgl o5
        have zc19 : ∀ p : Later wr, p.now.cell? ⟨g, h * 13 + 6, none⟩ = some (.int .i64 x.spec.long) := fun _ => Later.cell hgl o6
        have zc20 : ∀ p : Later wr, p.now.cell? ⟨g, h * 13 + 7, none⟩ = some (.int .i64 x.spec.prio) := fun _ => Later.cell hgl o7
        have zc21 : ∀ p : Later wr, p.now.cell? ⟨g, h * 13 + 8, none⟩ = some (.slice A4 m4 c4) := fun _ => Later.cell hgl o8
        have zc22 : ∀ p : Later wr, p.now.cell? ⟨g, h * 13 + 9, none⟩ = some (.int .i64 x.state) := fun _ => Later.cell hgl o9
        have zc23 : ∀ p : Later wr, p.now.cell? ⟨g, h * 13 + 10, none⟩ = some (.int .i64 x.came) := fun _ => Later.cell hgl o10
        have zc24 : ∀ p : Later wr, p.now.cell? ⟨g, h * 13 + 11, none⟩ = some (.int .i64 x.frm) := fun _ => Later.cell hgl o11
        have zc25 : ∀ p : Later wr, p.now.cell? ⟨g, h * 13 + 12, none⟩ = some (.int .i64 x.to) := fun _ => Later.cell hgl o12
        refine wp_region_later (by kernel_rfl) (by kernel_rfl) ?_
        repeat (first | go_big_quiet_skip | (go_big_quiet_want; go_big_quiet_op; first | go_big_quiet_on | (apply Exists.intro; refine ⟨fun pz => ?_, ?_⟩; (first | (go_at_call 27; exact Calls.later_of (urg_b RR.out)) | fail); go_big_quiet_on)))
        refine wpQuiet_nil ?_
        intro _ hw'
        obtain ⟨pz, rfl⟩ := hw'
        obtain ⟨w5, hb⟩ := pz
        try dsimp only
        clear zc0 zc1 zc2 zc3 zc4 zc5 zc6 zc7 zc8 zc9 zc10 zc11 zc12 zc13 zc14 zc15 zc16 zc17 zc18 zc19 zc20 zc21 zc22 zc23 zc24 zc25
        have HKq := Lib.hid (HK.out.next hb)
        clear HK
        have HK := HKq
        clear HKq
        clear hb
        clear e0 e1 e2 e3 e4 e5 e6 e7 e8 e9 e10 e11 e12 o0 o1 o2 o3 o4 o5 o6 o7 o8 o9 o10 o11 o12 hgl
        go_wp2_with fail
        go_roundg (h - lo)
        case measure => omega
        case rel => exact ⟨lo, h, rfl, rfl, hlo, by omega, by omega, Nat.le_refl _, HL1.out, HN.out, HK.out⟩
      · rw [decide_eq_false hu] at hul
        have HN : Hid (h + 1 = a ∨ Before (f (h + 1 - 1)) y) := Lib.hid (.inr (by rw [Nat.add_sub_cancel, HX.out]; exact (urg_not HXY.out).1 hu))
        clear hu
        go_wp2_with fail
        have zc0 : ∀ p : Later wr, p.now.cell? ⟨g, m * 13, none⟩ = some (.int .i64 y.id) := fun _ => Later.cell hgl e0
        have zc1 : ∀ p : Later wr, p.now.cell? ⟨g, m * 13 + 1, none⟩ = some (.int .i64 y.spec.nodes) := fun _ => Later.cell hgl e1
        have zc2 : ∀ p : Later wr, p.now.cell? ⟨g, m * 13 + 2, none⟩ = some (.int .i64 y.spec.cores) := fun _ => Later.cell hgl e2
        have zc3 : ∀ p : Later wr, p.now.cell? ⟨g, m * 13 + 3, none⟩ = some (.int .i64 y.spec.gpus) := fun _ => Later.cell hgl e3
        have zc4 : ∀ p : Later wr, p.now.cell? ⟨g, m * 13 + 4, none⟩ = some (.string y.spec.tag) := fun _ => Later.cell hgl e4
        have zc5 : ∀ p : Later wr, p.now.cell? ⟨g, m * 13 + 5, none⟩ = some (.bool y.spec.whole) := fun _ => Later.cell hgl e5
        have zc6 : ∀ p : Later wr, p.now.cell? ⟨g, m * 13 + 6, none⟩ = some (.int .i64 y.spec.long) := fun _ => Later.cell hgl e6
        have zc7 : ∀ p : Later wr, p.now.cell? ⟨g, m * 13 + 7, none⟩ = some (.int .i64 y.spec.prio) := fun _ => Later.cell hgl e7
        have zc8 : ∀ p : Later wr, p.now.cell? ⟨g, m * 13 + 8, none⟩ = some (.slice A3 m3 c3) := fun _ => Later.cell hgl e8
        have zc9 : ∀ p : Later wr, p.now.cell? ⟨g, m * 13 + 9, none⟩ = some (.int .i64 y.state) := fun _ => Later.cell hgl e9
        have zc10 : ∀ p : Later wr, p.now.cell? ⟨g, m * 13 + 10, none⟩ = some (.int .i64 y.came) := fun _ => Later.cell hgl e10
        have zc11 : ∀ p : Later wr, p.now.cell? ⟨g, m * 13 + 11, none⟩ = some (.int .i64 y.frm) := fun _ => Later.cell hgl e11
        have zc12 : ∀ p : Later wr, p.now.cell? ⟨g, m * 13 + 12, none⟩ = some (.int .i64 y.to) := fun _ => Later.cell hgl e12
        have zc13 : ∀ p : Later wr, p.now.cell? ⟨g, h * 13, none⟩ = some (.int .i64 x.id) := fun _ => Later.cell hgl o0
        have zc14 : ∀ p : Later wr, p.now.cell? ⟨g, h * 13 + 1, none⟩ = some (.int .i64 x.spec.nodes) := fun _ => Later.cell hgl o1
        have zc15 : ∀ p : Later wr, p.now.cell? ⟨g, h * 13 + 2, none⟩ = some (.int .i64 x.spec.cores) := fun _ => Later.cell hgl o2
        have zc16 : ∀ p : Later wr, p.now.cell? ⟨g, h * 13 + 3, none⟩ = some (.int .i64 x.spec.gpus) := fun _ => Later.cell hgl o3
        have zc17 : ∀ p : Later wr, p.now.cell? ⟨g, h * 13 + 4, none⟩ = some (.string x.spec.tag) := fun _ => Later.cell hgl o4
        have zc18 : ∀ p : Later wr, p.now.cell? ⟨g, h * 13 + 5, none⟩ = some (.bool x.spec.whole) := fun _ => Later.cell hgl o5
        have zc19 : ∀ p : Later wr, p.now.cell? ⟨g, h * 13 + 6, none⟩ = some (.int .i64 x.spec.long) := fun _ => Later.cell hgl o6
        have zc20 : ∀ p : Later wr, p.now.cell? ⟨g, h * 13 + 7, none⟩ = some (.int .i64 x.spec.prio) := fun _ => Later.cell hgl o7
        have zc21 : ∀ p : Later wr, p.now.cell? ⟨g, h * 13 + 8, none⟩ = some (.slice A4 m4 c4) := fun _ => Later.cell hgl o8
        have zc22 : ∀ p : Later wr, p.now.cell? ⟨g, h * 13 + 9, none⟩ = some (.int .i64 x.state) := fun _ => Later.cell hgl o9
        have zc23 : ∀ p : Later wr, p.now.cell? ⟨g, h * 13 + 10, none⟩ = some (.int .i64 x.came) := fun _ => Later.cell hgl o10
        have zc24 : ∀ p : Later wr, p.now.cell? ⟨g, h * 13 + 11, none⟩ = some (.int .i64 x.frm) := fun _ => Later.cell hgl o11
        have zc25 : ∀ p : Later wr, p.now.cell? ⟨g, h * 13 + 12, none⟩ = some (.int .i64 x.to) := fun _ => Later.cell hgl o12
        refine wp_region_later (by kernel_rfl) (by kernel_rfl) ?_
        repeat (first | go_big_quiet_skip | (go_big_quiet_want; go_big_quiet_op; first | go_big_quiet_on | (apply Exists.intro; refine ⟨fun pz => ?_, ?_⟩; (first | (go_at_call 27; exact Calls.later_of (urg_b RR.out)) | fail); go_big_quiet_on)))
        refine wpQuiet_nil ?_
        intro _ hw'
        obtain ⟨pz, rfl⟩ := hw'
        obtain ⟨w5, hb⟩ := pz
        try dsimp only
        clear zc0 zc1 zc2 zc3 zc4 zc5 zc6 zc7 zc8 zc9 zc10 zc11 zc12 zc13 zc14 zc15 zc16 zc17 zc18 zc19 zc20 zc21 zc22 zc23 zc24 zc25
        have HKq := Lib.hid (HK.out.next hb)
        clear HK
        have HK := HKq
        clear HKq
        clear hb
        clear e0 e1 e2 e3 e4 e5 e6 e7 e8 e9 e10 e11 e12 o0 o1 o2 o3 o4 o5 o6 o7 o8 o9 o10 o11 o12 hgl
        go_wp2_with fail
        go_roundg (hi - (h + 1))
        case measure => omega
        case rel => exact ⟨h + 1, hi, by go_num, rfl, by omega, by omega, hhi, Nat.le_refl _, HN.out, HL2.out, HK.out⟩
    · obtain rfl : hi = lo := by omega
      clear hlt hlh
      go_wp2_with fail
      go_loopg [17] m (fun kx vk wr => ∃ (k : Nat) (f1 : JF), vk = .int .i64 k ∧ hi ≤ k ∧ k ≤ m ∧ k - hi ≤ kx ∧ f1 k = y ∧ (∀ q, k < q → q ≤ m → f1 q = f (q - 1)) ∧ (∀ q, q < k ∨ m < q → f1 q = f q) ∧ SameIn f f1 a (m + 1) ∧ RowF w0 g n cap f1 wr)
      case atStart => exact ⟨m, f, rfl, by omega, Nat.le_refl _, by omega, HY.out, fun q p1 p2 => by omega, fun _ _ => rfl, SameIn.refl _ _ _, HK.out⟩
      case round =>
        clear HK
        obtain ⟨k, f1, rfl, hak, hki, hkk, hfk, hsh, hou, hsa, hrow⟩ := hrel
        have HFK := Lib.hid hfk
        have HSH := Lib.hid hsh
        have HOU := Lib.hid hou
        have HSA := Lib.hid hsa
        have HK := Lib.hid hrow
        clear hfk hsh hou hsa hrow
        by_cases hlk : hi < k
        · have hkz : (hi : Int) < (k : Int) := by omega
          have hk0 : k < n := by omega
          have hk1 : k - 1 < n := by omega
          obtain ⟨x, hx⟩ : ∃ x, f (k - 1) = x := ⟨_, rfl⟩
          have HFX : Hid (f1 (k - 1) = x) := Lib.hid (by rw [HOU.out _ (.inl (by omega))]; exact hx)
          have HXK := Lib.hid hx
          clear hx
          go_wp2_with fail
          have hgl := HK.out.lt.2
          obtain ⟨A3, m3, c3, ⟨e0, e1, e2, e3, e4, e5, e6, e7, e8, e9, e10, e11, e12⟩, hex⟩ := HK.out.at hk0
          obtain ⟨A4, m4, c4, ⟨o0, o1, o2, o3, o4, o5, o6, o7, o8, o9, o10, o11, o12⟩, hey⟩ := HK.out.at hk1
          rw [HFK.out] at hex e0 e1 e2 e3 e4 e5 e6 e7 e9 e10 e11 e12
          rw [HFX.out] at hey o0 o1 o2 o3 o4 o5 o6 o7 o9 o10 o11 o12
          have HK6 : Hid (RowF w0 g n cap (swpF f1 (k - 1) k) (((((((((((((((((((((((((((wr.setCell ⟨g, k * 13, none⟩ (.int .i64 x.id)).setCell ⟨g, k * 13 + 1, none⟩ (.int .i64 x.spec.nodes)).setCell ⟨g, k * 13 + 2, none⟩ (.int .i64 x.spec.cores)).setCell ⟨g, k * 13 + 3, none⟩ (.int .i64 x.spec.gpus)).setCell ⟨g, k * 13 + 4, none⟩ (.string x.spec.tag)).setCell ⟨g, k * 13 + 5, none⟩ (.bool x.spec.whole)).setCell ⟨g, k * 13 + 6, none⟩ (.int .i64 x.spec.long)).setCell ⟨g, k * 13 + 7, none⟩ (.int .i64 x.spec.prio)).setCell ⟨g, k * 13 + 8, none⟩ (.slice A4 m4 c4)).setCell ⟨g, k * 13 + 9, none⟩ (.int .i64 x.state)).setCell ⟨g, k * 13 + 10, none⟩ (.int .i64 x.came)).setCell ⟨g, k * 13 + 11, none⟩ (.int .i64 x.frm)).setCell ⟨g, k * 13 + 12, none⟩ (.int .i64 x.to)).setCell ⟨g, (k - 1) * 13, none⟩ (.int .i64 y.id)).setCell ⟨g, (k - 1) * 13 + 1, none⟩ (.int .i64 y.spec.nodes)).setCell ⟨g, (k - 1) * 13 + 2, none⟩ (.int .i64 y.spec.cores)).setCell ⟨g, (k - 1) * 13 + 3, none⟩ (.int .i64 y.spec.gpus)).setCell ⟨g, (k - 1) * 13 + 4, none⟩ (.string y.spec.tag)).setCell ⟨g, (k - 1) * 13 + 5, none⟩ (.bool y.spec.whole)).setCell ⟨g, (k - 1) * 13 + 6, none⟩ (.int .i64 y.spec.long)).setCell ⟨g, (k - 1) * 13 + 7, none⟩ (.int .i64 y.spec.prio)).setCell ⟨g, (k - 1) * 13 + 8, none⟩ (.slice A3 m3 c3)).setCell ⟨g, (k - 1) * 13 + 9, none⟩ (.int .i64 y.state)).setCell ⟨g, (k - 1) * 13 + 10, none⟩ (.int .i64 y.came)).setCell ⟨g, (k - 1) * 13 + 11, none⟩ (.int .i64 y.frm)).setCell ⟨g, (k - 1) * 13 + 12, none⟩ (.int .i64 y.to)).drew)) := Lib.hid ((HK.out.swap hk0 hk1 HFK.out HFX.out hex hey).drew)
          clear hex hey
          obtain ⟨⟨u0, p0⟩, z0⟩ := HK.out.slot (q := k * 13) (by omega)
          obtain ⟨⟨t0, r0⟩, y0⟩ := HK.out.slot (q := (k - 1) * 13) (by omega)
          obtain ⟨⟨u1, p1⟩, z1⟩ := HK.out.slot (q := k * 13 + 1) (by omega)
          obtain ⟨⟨t1, r1⟩, y1⟩ := HK.out.slot (q := (k - 1) * 13 + 1) (by omega)
          obtain ⟨⟨u2, p2⟩, z2⟩ := HK.out.slot (q := k * 13 + 2) (by omega)
          obtain ⟨⟨t2, r2⟩, y2⟩ := HK.out.slot (q := (k - 1) * 13 + 2) (by omega)
          obtain ⟨⟨u3, p3⟩, z3⟩ := HK.out.slot (q := k * 13 + 3) (by omega)
          obtain ⟨⟨t3, r3⟩, y3⟩ := HK.out.slot (q := (k - 1) * 13 + 3) (by omega)
          obtain ⟨⟨u4, p4⟩, z4⟩ := HK.out.slot (q := k * 13 + 4) (by omega)
          obtain ⟨⟨t4, r4⟩, y4⟩ := HK.out.slot (q := (k - 1) * 13 + 4) (by omega)
          obtain ⟨⟨u5, p5⟩, z5⟩ := HK.out.slot (q := k * 13 + 5) (by omega)
          obtain ⟨⟨t5, r5⟩, y5⟩ := HK.out.slot (q := (k - 1) * 13 + 5) (by omega)
          obtain ⟨⟨u6, p6⟩, z6⟩ := HK.out.slot (q := k * 13 + 6) (by omega)
          obtain ⟨⟨t6, r6⟩, y6⟩ := HK.out.slot (q := (k - 1) * 13 + 6) (by omega)
          obtain ⟨⟨u7, p7⟩, z7⟩ := HK.out.slot (q := k * 13 + 7) (by omega)
          obtain ⟨⟨t7, r7⟩, y7⟩ := HK.out.slot (q := (k - 1) * 13 + 7) (by omega)
          obtain ⟨⟨u8, p8⟩, z8⟩ := HK.out.slot (q := k * 13 + 8) (by omega)
          obtain ⟨⟨t8, r8⟩, y8⟩ := HK.out.slot (q := (k - 1) * 13 + 8) (by omega)
          obtain ⟨⟨u9, p9⟩, z9⟩ := HK.out.slot (q := k * 13 + 9) (by omega)
          obtain ⟨⟨t9, r9⟩, y9⟩ := HK.out.slot (q := (k - 1) * 13 + 9) (by omega)
          obtain ⟨⟨u10, p10⟩, z10⟩ := HK.out.slot (q := k * 13 + 10) (by omega)
          obtain ⟨⟨t10, r10⟩, y10⟩ := HK.out.slot (q := (k - 1) * 13 + 10) (by omega)
          obtain ⟨⟨u11, p11⟩, z11⟩ := HK.out.slot (q := k * 13 + 11) (by omega)
          obtain ⟨⟨t11, r11⟩, y11⟩ := HK.out.slot (q := (k - 1) * 13 + 11) (by omega)
          obtain ⟨⟨u12, p12⟩, z12⟩ := HK.out.slot (q := k * 13 + 12) (by omega)
          obtain ⟨⟨t12, r12⟩, y12⟩ := HK.out.slot (q := (k - 1) * 13 + 12) (by omega)
          go_big_region_o
          all_goals go_wp2_with fail
          go_roundg (k - 1 - hi)
          case measure => omega
          case rel =>
            refine ⟨k - 1, _, by go_num, by omega, by omega, Nat.le_refl _, ?_, ?_, ?_, ?_, HK6.out⟩
            · unfold swpF; rw [if_pos rfl]; exact HFK.out
            · intro q p1 p2
              unfold swpF
              rw [if_neg (by omega)]
              by_cases h3 : q = k
              · rw [if_pos h3, HFX.out, h3, HXK.out]
              · rw [if_neg h3]; exact HSH.out q (by omega) p2
            · intro q p1
              unfold swpF
              rw [if_neg (by omega), if_neg (by omega)]; exact HOU.out q (by omega)
            · exact HSA.out.trans (swpF_same ⟨by omega, by omega⟩ ⟨by omega, by omega⟩)
        · have hkz : ¬ (hi : Int) < (k : Int) := by omega
          have hke : k = hi := by omega
          have HS : Hid (SrtB f1 a (m + 1)) := Lib.hid (insert_right (f := f) (i := hi) H1.out hlo hhi (by rw [HY.out]; exact HL1.out) (by rw [HY.out]; exact HL2.out) (fun q p1 p2 => HSH.out q (by omega) p2) (by rw [← hke, HY.out]; exact HFK.out) (fun q p1 => HOU.out q (by omega)))
          go_wp2_with fail
          (try simp only [Exit.inBlock, Exit.then])
          refine bodyPost_ret (results_none rfl _ _ _) rfl ?_
          exact ⟨rfl, f1, HSA.out, HS.out, HK.out⟩

end Go.Proofs.Ytimgdlddfnglaaa
