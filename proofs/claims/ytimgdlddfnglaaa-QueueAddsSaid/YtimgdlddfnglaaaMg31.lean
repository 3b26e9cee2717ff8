/- Go's slices.symMergeCmpFunc of jobs: two sorted parts become one. Written by gen/gen_queuesort.py. -/
import Derived.Test.YtimgdlddfnglaaaMg30
namespace Go.Proofs.Ytimgdlddfnglaaa
open Go.RowKit

/-- what the merge promises of shorter rows -/
def SymIH (N : Nat) : Prop := ∀ (w0 : World) (g n cap a m b : Nat) (f : JF) (w : World), RowF w0 g n cap f w → n ≤ 1000 → a < m → m < b → b ≤ n → b - a ≤ N → SrtB f a m → SrtB f m b → CrossB f a m b →
    Calls Try.prog 61 #[.slice (some ⟨g, 0, none⟩) n cap, .int .i64 a, .int .i64 m, .int .i64 b, .func (.func 27) #[] #[]] w (fun e w' => e = .returned (.tuple #[]) ∧ ∃ f', SameIn f f' a b ∧ SrtB f' a b ∧ RowF w0 g n cap f' w')
set_option maxRecDepth 100000 in
set_option maxHeartbeats 8000000 in
theorem sym_restB (w0 : World) (g n cap a m b : Nat) (f : JF) (w : World) (hr : RowF w0 g n cap f w) (hn : n ≤ 1000) (ham : a < m) (hmb : m < b) (hbn : b ≤ n) (h1 : SrtB f a m) (h2 : SrtB f m b) (hc : CrossB f a m b) (h1m : m ≠ a + 1) (hb1 : b ≠ m + 1) (N : Nat) (hN : b - a ≤ N + 1) (ih : SymIH N) (mid : Nat) (hmid : (a + b) / 2 = mid) (hbig : mid < m) :
    Calls Try.prog 61 #[.slice (some ⟨g, 0, none⟩) n cap, .int .i64 a, .int .i64 m, .int .i64 b, .func (.func 27) #[] #[]] w (fun e w' => e = .returned (.tuple #[]) ∧ ∃ f', SameIn f f' a b ∧ SrtB f' a b ∧ RowF w0 g n cap f' w') := by
  have HR := Lib.hid hr
  have H1 := Lib.hid h1
  have H2 := Lib.hid h2
  have HC := Lib.hid hc
  have eg := eg_urg
  have mixed : Try.prog.follows .mixedOrders = true := by kernel_rfl
  clear hr h1 h2 hc
  have HIH := Lib.hid ih
  have _u := h1m
  clear _u
  have dma : (((m : Int) - (a : Int)) == 1) = false := beq_eq_false_iff_ne.2 (by omega)
  have dbm : (((b : Int) - (m : Int)) == 1) = false := beq_eq_false_iff_ne.2 (by omega)
  have hmidz : ((a : Int) + (b : Int)) / 2 = (mid : Int) := by omega
  have ham2 : a ≤ mid := by omega
  have hmb2 : mid ≤ b := by omega
  have hamid : a < mid := by omega
  have hmidb : mid < b := by omega
  have hgt : decide (mid < m) = true := decide_eq_true hbig
  have hgtz : (mid : Int) < (m : Int) := by omega
  clear ih hmid
  go_enter Try.func61, Try.ntmps61
  go_wp2_with fail
  go_loopg [20, 21] b (fun kx vi vj wr => ∃ (s r : Nat), vi = .int .i64 s ∧ vj = .int .i64 r ∧ (mid + m - b) ≤ s ∧ s ≤ r ∧ r ≤ mid ∧ r - s ≤ kx ∧ (s = (mid + m - b) ∨ Before (f (s - 1)) (f (mid + m - s))) ∧ (r = mid ∨ Before (f (mid + m - 1 - r)) (f r)) ∧ RowF w0 g n cap f wr)
  case atStart => exact ⟨mid + m - b, mid, by go_num, rfl, Nat.le_refl _, by omega, Nat.le_refl _, by omega, .inl rfl, .inl rfl, HR.out⟩
  case round =>
    clear HR
    obtain ⟨s, r, rfl, rfl, hlo, hlh, hhi, hkx, hl1, hl2, hrow⟩ := hrel
    have HL1 := Lib.hid hl1
    have HL2 := Lib.hid hl2
    have HK := Lib.hid hrow
    clear hl1 hl2 hrow
    by_cases hlt : s < r
    · obtain ⟨h, hh⟩ : ∃ h : Nat, (s + r) / 2 = h := ⟨_, rfl⟩
      have hh1 : s ≤ h ∧ h < r := by omega
      have e1' : ((s : Int) + (r : Int)) / 2 = (h : Int) := by omega
      have hhn : h < n := by omega
      have hhz : (h : Int) < (n : Int) := by omega
      obtain ⟨pq, hp⟩ : ∃ p : Nat, mid + m - 1 - h = p := ⟨_, rfl⟩
      have hpz : (mid : Int) + (m : Int) - 1 - (h : Int) = (pq : Int) := by omega
      have hpn : pq < n := by omega
      have hpnz : (pq : Int) < (n : Int) := by omega
      obtain ⟨x, hx⟩ : ∃ x, f h = x := ⟨_, rfl⟩
      obtain ⟨y, hy⟩ : ∃ y, f pq = y := ⟨_, rfl⟩
      have HX := Lib.hid hx
      have HY := Lib.hid hy
      have HXY : Hid (x.id < y.id) := Lib.hid (by rw [← hx, ← hy]; exact HC.out h pq (by omega) (by omega) (by omega) (by omega))
      have HP := Lib.hid hp
      clear hh hx hy hp
      have hgl := HK.out.lt.2
      obtain ⟨A3, m3, c3, ⟨e0, e1, e2, e3, e4, e5, e6, e7, e8, e9, e10, e11, e12⟩, hey⟩ := HK.out.at (k := pq) hpn
      obtain ⟨A4, m4, c4, ⟨o0, o1, o2, o3, o4, o5, o6, o7, o8, o9, o10, o11, o12⟩, hex⟩ := HK.out.at (k := h) hhn
      rw [HY.out] at hey e0 e1 e2 e3 e4 e5 e6 e7 e9 e10 e11 e12
      rw [HX.out] at hex o0 o1 o2 o3 o4 o5 o6 o7 o9 o10 o11 o12
      clear hex hey
      have hul := urg_lt y x
      obtain ⟨r', hrr⟩ : ∃ r', cmp3 x.spec.prio y.spec.prio = r' := ⟨_, rfl⟩
      rw [hrr] at hul
      have RR := Lib.hid hrr
      clear hrr
      by_cases hu : UrgB y x
      · rw [decide_eq_true hu] at hul
        have HN : Hid (h = mid ∨ Before (f (mid + m - 1 - h)) (f h)) := Lib.hid (.inr (by rw [HP.out, HX.out, HY.out]; exact (urg_before HXY.out).1 hu))
        clear hu
        go_wp2_with fail
        have zc0 : ∀ p : Later wr, p.now.cell? ⟨g, pq * 13, none⟩ = some (.int .i64 y.id) := fun _ => Later.cell hgl e0
        have zc1 : ∀ p : Later wr, p.now.cell? ⟨g, pq * 13 + 1, none⟩ = some (.int .i64 y.spec.nodes) := fun _ => Later.cell hgl e1
        have zc2 : ∀ p : Later wr, p.now.cell? ⟨g, pq * 13 + 2, none⟩ = some (.int .i64 y.spec.cores) := fun _ => Later.cell hgl e2
        have zc3 : ∀ p : Later wr, p.now.cell? ⟨g, pq * 13 + 3, none⟩ = some (.int .i64 y.spec.gpus) := fun _ => Later.cell hgl e3
        have zc4 : ∀ p : Later wr, p.now.cell? ⟨g, pq * 13 + 4, none⟩ = some (.string y.spec.tag) := fun _ => Later.cell hgl e4
        have zc5 : ∀ p : Later wr, p.now.cell? ⟨g, pq * 13 + 5, none⟩ = some (.bool y.spec.whole) := fun _ => Later.cell hgl e5
        have zc6 : ∀ p : Later wr, p.now.cell? ⟨g, pq * 13 + 6, none⟩ = some (.int .i64 y.spec.long) := fun _ => Later.cell hgl e6
        have zc7 : ∀ p : Later wr, p.now.cell? ⟨g, pq * 13 + 7, none⟩ = some (.int .i64 y.spec.prio) := fun _ => Later.cell hgl e7
        have zc8 : ∀ p : Later wr, p.now.cell? ⟨g, pq * 13 + 8, none⟩ = some (.slice A3 m3 c3) := fun _ => Later.cell hgl e8
        have zc9 : ∀ p : Later wr, p.now.cell? ⟨g, pq * 13 + 9, none⟩ = some (.int .i64 y.state) := fun _ => Later.cell hgl e9
        have zc10 : ∀ p : Later wr, p.now.cell? ⟨g, pq * 13 + 10, none⟩ = some (.int .i64 y.came) := fun _ => Later.cell hgl e10
        have zc11 : ∀ p : Later wr, p.now.cell? ⟨g, pq * 13 + 11, none⟩ = some (.int .i64 y.frm) := fun _ => Later.cell hgl e11
        have zc12 : ∀ p : Later wr, p.now.cell? ⟨g, pq * 13 + 12, none⟩ = some (.int .i64 y.to) := fun _ => Later.cell hgl e12
        have zc13 : ∀ p : Later wr, p.now.cell? ⟨g, h * 13, none⟩ = some (.int .i64 x.id) := fun _ => Later.cell hgl o0
        have zc14 : ∀ p : Later wr, p.now.cell? ⟨g, h * 13 + 1, none⟩ = some (.int .i64 x.spec.nodes) := fun _ => Later.cell hgl o1
        have zc15 : ∀ p : Later wr, p.now.cell? ⟨g, h * 13 + 2, none⟩ = some (.int .i64 x.spec.cores) := fun _ => Later.cell hgl o2
        have zc16 : ∀ p : Later wr, p.now.cell? ⟨g, h * 13 + 3, none⟩ = some (.int .i64 x.spec.gpus) := fun _ => Later.cell hgl o3
        have zc17 : ∀ p : Later wr, p.now.cell? ⟨g, h * 13 + 4, none⟩ = some (.string x.spec.tag) := fun _ => Later.cell hgl o4
        have zc18 : ∀ p : Later wr, p.now.cell? ⟨g, h * 13 + 5, none⟩ = some (.bool x.spec.whole) := fun _ => Later.cell hgl o5
        have zc19 : ∀ p : Later wr, p.now.cell? ⟨g, h * 13 + 6, none⟩ = some (.int .i64 x.spec.long) := fun _ => Later.cell hgl o6
        have zc20 : ∀ p : Later wr, p.now.cell? ⟨g, h * 13 + 7, none⟩ = some (.int .i64 x.spec.prio) := fun _ => Later.cell hgl o7
        have zc21 : ∀ p : Later wr, p.now.cell? ⟨g, h * 13 + 8, none⟩ = some (.slice A4 m4 c4) := fun _ => Later.cell hgl o8
        have zc22 : ∀ p : Later wr, p.now.cell? ⟨g, h * 13 + 9, none⟩ = some (.int .i64 x.state) := fun _ => Later.cell hgl o9
        have zc23 : ∀ p : Later wr, p.now.cell? ⟨g, h * 13 + 10, none⟩ = some (.int .i64 x.came) := fun _ => Later.cell hgl o10
        have zc24 : ∀ p : Later wr, p.now.cell? ⟨g, h * 13 + 11, none⟩ = some (.int .i64 x.frm) := fun _ => Later.cell hgl o11
        have zc25 : ∀ p : Later wr, p.now.cell? ⟨g, h * 13 + 12, none⟩ = some (.int .i64 x.to) := fun _ => Later.cell hgl o12
        refine wp_region_later (by kernel_rfl) (by kernel_rfl) ?_
        repeat (first | go_big_quiet_skip | (go_big_quiet_want; go_big_quiet_op; first | go_big_quiet_on | (apply Exists.intro; refine ⟨fun pz => ?_, ?_⟩; (first | (go_at_call 27; exact Calls.later_of (urg_b RR.out)) | fail); go_big_quiet_on)))
        refine wpQuiet_nil ?_
        intro _ hw'
        obtain ⟨pz, rfl⟩ := hw'
        obtain ⟨w5, hb⟩ := pz
        try dsimp only
        clear zc0 zc1 zc2 zc3 zc4 zc5 zc6 zc7 zc8 zc9 zc10 zc11 zc12 zc13 zc14 zc15 zc16 zc17 zc18 zc19 zc20 zc21 zc22 zc23 zc24 zc25
        have HKq := Lib.hid (HK.out.next hb)
        clear HK
        have HK := HKq
        clear HKq
        clear hb
        clear e0 e1 e2 e3 e4 e5 e6 e7 e8 e9 e10 e11 e12 o0 o1 o2 o3 o4 o5 o6 o7 o8 o9 o10 o11 o12 hgl
        go_wp2_with fail
        go_roundg (h - s)
        case measure => omega
        case rel => exact ⟨s, h, rfl, rfl, hlo, by omega, by omega, Nat.le_refl _, HL1.out, HN.out, HK.out⟩
      · rw [decide_eq_false hu] at hul
        have HN : Hid (h + 1 = (mid + m - b) ∨ Before (f (h + 1 - 1)) (f (mid + m - (h + 1)))) := Lib.hid (.inr (by rw [Nat.add_sub_cancel, show mid + m - (h + 1) = mid + m - 1 - h by omega, HP.out, HX.out, HY.out]; exact (urg_not HXY.out).1 hu))
        clear hu
        go_wp2_with fail
        have zc0 : ∀ p : Later wr, p.now.cell? ⟨g, pq * 13, none⟩ = some (.int .i64 y.id) := fun _ => Later.cell hgl e0
        have zc1 : ∀ p : Later wr, p.now.cell? ⟨g, pq * 13 + 1, none⟩ = some (.int .i64 y.spec.nodes) := fun _ => Later.cell hgl e1
        have zc2 : ∀ p : Later wr, p.now.cell? ⟨g, pq * 13 + 2, none⟩ = some (.int .i64 y.spec.cores) := fun _ => Later.cell hgl e2
        have zc3 : ∀ p : Later wr, p.now.cell? ⟨g, pq * 13 + 3, none⟩ = some (.int .i64 y.spec.gpus) := fun _ => Later.cell hgl e3
        have zc4 : ∀ p : Later wr, p.now.cell? ⟨g, pq * 13 + 4, none⟩ = some (.string y.spec.tag) := fun _ => Later.cell hgl e4
        have zc5 : ∀ p : Later wr, p.now.cell? ⟨g, pq * 13 + 5, none⟩ = some (.bool y.spec.whole) := fun _ => Later.cell hgl e5
        have zc6 : ∀ p : Later wr, p.now.cell? ⟨g, pq * 13 + 6, none⟩ = some (.int .i64 y.spec.long) := fun _ => Later.cell hgl e6
        have zc7 : ∀ p : Later wr, p.now.cell? ⟨g, pq * 13 + 7, none⟩ = some (.int .i64 y.spec.prio) := fun _ => Later.cell hgl e7
        have zc8 : ∀ p : Later wr, p.now.cell? ⟨g, pq * 13 + 8, none⟩ = some (.slice A3 m3 c3) := fun _ => Later.cell hgl e8
        have zc9 : ∀ p : Later wr, p.now.cell? ⟨g, pq * 13 + 9, none⟩ = some (.int .i64 y.state) := fun _ => Later.cell hgl e9
        have zc10 : ∀ p : Later wr, p.now.cell? ⟨g, pq * 13 + 10, none⟩ = some (.int .i64 y.came) := fun _ => Later.cell hgl e10
        have zc11 : ∀ p : Later wr, p.now.cell? ⟨g, pq * 13 + 11, none⟩ = some (.int .i64 y.frm) := fun _ => Later.cell hgl e11
        have zc12 : ∀ p : Later wr, p.now.cell? ⟨g, pq * 13 + 12, none⟩ = some (.int .i64 y.to) := fun _ => Later.cell hgl e12
        have zc13 : ∀ p : Later wr, p.now.cell? ⟨g, h * 13, none⟩ = some (.int .i64 x.id) := fun _ => Later.cell hgl o0
        have zc14 : ∀ p : Later wr, p.now.cell? ⟨g, h * 13 + 1, none⟩ = some (.int .i64 x.spec.nodes) := fun _ => Later.cell hgl o1
        have zc15 : ∀ p : Later wr, p.now.cell? ⟨g, h * 13 + 2, none⟩ = some (.int .i64 x.spec.cores) := fun _ => Later.cell hgl o2
        have zc16 : ∀ p : Later wr, p.now.cell? ⟨g, h * 13 + 3, none⟩ = some (.int .i64 x.spec.gpus) := fun _ => Later.cell hgl o3
        have zc17 : ∀ p : Later wr, p.now.cell? ⟨g, h * 13 + 4, none⟩ = some (.string x.spec.tag) := fun _ => Later.cell hgl o4
        have zc18 : ∀ p : Later wr, p.now.cell? ⟨g, h * 13 + 5, none⟩ = some (.bool x.spec.whole) := fun _ => Later.cell hgl o5
        have zc19 : ∀ p : Later wr, p.now.cell? ⟨g, h * 13 + 6, none⟩ = some (.int .i64 x.spec.long) := fun _ => Later.cell hgl o6
        have zc20 : ∀ p : Later wr, p.now.cell? ⟨g, h * 13 + 7, none⟩ = some (.int .i64 x.spec.prio) := fun _ => Later.cell hgl o7
        have zc21 : ∀ p : Later wr, p.now.cell? ⟨g, h * 13 + 8, none⟩ = some (.slice A4 m4 c4) := fun _ => Later.cell hgl o8
        have zc22 : ∀ p : Later wr, p.now.cell? ⟨g, h * 13 + 9, none⟩ = some (.int .i64 x.state) := fun _ => Later.cell hgl o9
        have zc23 : ∀ p : Later wr, p.now.cell? ⟨g, h * 13 + 10, none⟩ = some (.int .i64 x.came) := fun _ => Later.cell hgl o10
        have zc24 : ∀ p : Later wr, p.now.cell? ⟨g, h * 13 + 11, none⟩ = some (.int .i64 x.frm) := fun _ => Later.cell hgl o11
        have zc25 : ∀ p : Later wr, p.now.cell? ⟨g, h * 13 + 12, none⟩ = some (.int .i64 x.to) := fun _ => Later.cell hgl o12
        refine wp_region_later (by kernel_rfl) (by kernel_rfl) ?_
        repeat (first | go_big_quiet_skip | (go_big_quiet_want; go_big_quiet_op; first | go_big_quiet_on | (apply Exists.intro; refine ⟨fun pz => ?_, ?_⟩; (first | (go_at_call 27; exact Calls.later_of (urg_b RR.out)) | fail); go_big_quiet_on)))
        refine wpQuiet_nil ?_
        intro _ hw'
        obtain ⟨pz, rfl⟩ := hw'
        obtain ⟨w5, hb⟩ := pz
        try dsimp only
        clear zc0 zc1 zc2 zc3 zc4 zc5 zc6 zc7 zc8 zc9 zc10 zc11 zc12 zc13 zc14 zc15 zc16 zc17 zc18 zc19 zc20 zc21 zc22 zc23 zc24 zc25
        have HKq := Lib.hid (HK.out.next hb)
        clear HK
        have HK := HKq
        clear HKq
        clear hb
        clear e0 e1 e2 e3 e4 e5 e6 e7 e8 e9 e10 e11 e12 o0 o1 o2 o3 o4 o5 o6 o7 o8 o9 o10 o11 o12 hgl
        go_wp2_with fail
        go_roundg (r - (h + 1))
        case measure => omega
        case rel => exact ⟨h + 1, r, by go_num, rfl, by omega, by omega, hhi, Nat.le_refl _, HN.out, HL2.out, HK.out⟩
    · obtain rfl : s = r := by omega
      obtain ⟨e, he⟩ : ∃ e : Nat, mid + m - s = e := ⟨_, rfl⟩
      have hez : (mid : Int) + (m : Int) - (s : Int) = (e : Int) := by omega
      have hs1 : a ≤ s := by omega
      have hs2 : s ≤ m := by omega
      have hs3 : m ≤ e := by omega
      have hs4 : mid ≤ e := by omega
      have hs5 : s ≤ mid := by omega
      have hs6 : e ≤ b := by omega
      obtain ⟨f1, hf1⟩ : ∃ f1, rotF f s m e = f1 := ⟨_, rfl⟩
      have HF1 := Lib.hid hf1
      have HSP : Hid (Split f f1 a s mid e b) := Lib.hid (by
        rw [← hf1]
        refine split_rot H1.out H2.out HC.out hs1 hs2 hs3 hs6 (by omega) ?_ ?_
        · rcases HL1.out with h | h
          · omega
          · rw [he] at h; exact .inr (.inr h)
        · rcases HL2.out with h | h
          · omega
          · rw [show mid + m - 1 - s = e - 1 by omega] at h; exact .inr (.inr h))
      clear hf1 he hlt hlh HL1 HL2
      have hez2 : (mid : Int) + (m : Int) - (s : Int) = (e : Int) := hez
      by_cases hrot : s < m ∧ m < e
      · have dr1 : decide (s < m) = true := decide_eq_true hrot.1
        have dr2 : decide (m < e) = true := decide_eq_true hrot.2
        have dr3 := hrot.1
        have dr4 := hrot.2
        have HCR := Lib.hid (rotate_any w0 g n cap s m e f wr HK.out hn hrot.1 hrot.2 (by omega))
        rw [HF1.out] at HCR
        clear hrot
        go_wp2_with fail
        refine HCR.out.mono ?_
        rintro e w5 ⟨rfl, h5⟩
        have HK1 := Lib.hid h5
        clear h5 HCR HK
        by_cases hle : a < s ∧ s < mid
        · have dl1 : decide (a < s) = true := decide_eq_true hle.1
          have dl2 : decide (s < mid) = true := decide_eq_true hle.2
          have dl3 := hle.1
          have dl4 := hle.2
          have HCL := Lib.hid (HIH.out w0 g n cap a s mid f1 _ HK1.out hn hle.1 hle.2 (by omega) (by omega) HSP.out.s1 HSP.out.s2 HSP.out.c1)
          clear hle
          go_wp2_with fail
          refine HCL.out.mono ?_
          rintro e w6 ⟨rfl, f2, hsa, hso, h6⟩
          have HS2 := Lib.hid hsa
          have HO2 := Lib.hid hso
          have HK2 := Lib.hid h6
          clear hsa hso h6 HCL HK1
          by_cases hue : mid < e ∧ e < b
          · have du1 : decide (mid < e) = true := decide_eq_true hue.1
            have du2 : decide (e < b) = true := decide_eq_true hue.2
            have du3 := hue.1
            have du4 := hue.2
            have HCU := Lib.hid (HIH.out w0 g n cap mid e b f2 _ HK2.out hn hue.1 hue.2 hbn (by omega) (HSP.out.s3.congr fun q q1 _ => HS2.out.out q (.inr q1)) (HSP.out.s4.congr fun q q1 _ => HS2.out.out q (.inr (by omega))) (CrossB.mono HS2.out (.inl (Nat.le_refl _)) HSP.out.c2))
            clear hue
            go_wp2_with fail
            refine HCU.out.mono ?_
            rintro e' w7 ⟨rfl, f3, hsa, hso, h7⟩
            have HS3 := Lib.hid hsa
            have HO3 := Lib.hid hso
            have HK3 := Lib.hid h7
            clear hsa hso h7 HCU HK2
            go_wp2_with fail
            go_end0
            exact ⟨rfl, f3, (HSP.out.done ham2 hmb2 HS2.out HO2.out HS3.out HO3.out).1, (HSP.out.done ham2 hmb2 HS2.out HO2.out HS3.out HO3.out).2, HK3.out⟩
          · have HS3 := Lib.hid (SameIn.refl f2 mid b)
            have HO3 : Hid (SrtB f2 mid b) := Lib.hid ((HSP.out.right hs4 hs6 hue).congr fun q q1 _ => HS2.out.out q (.inr q1))
            have HK3 := HK2
            clear HK2
            by_cases hue1 : mid < e
            · have du1 : decide (mid < e) = true := decide_eq_true hue1
              have du2 : decide (e < b) = false := decide_eq_false (by omega)
              have du4 : ¬ e < b := by omega
              clear hue
              go_wp2_with fail
              go_end0
              exact ⟨rfl, f2, (HSP.out.done ham2 hmb2 HS2.out HO2.out HS3.out HO3.out).1, (HSP.out.done ham2 hmb2 HS2.out HO2.out HS3.out HO3.out).2, HK3.out⟩
            · have du1 : decide (mid < e) = false := decide_eq_false hue1
              clear hue
              go_wp2_with fail
              go_end0
              exact ⟨rfl, f2, (HSP.out.done ham2 hmb2 HS2.out HO2.out HS3.out HO3.out).1, (HSP.out.done ham2 hmb2 HS2.out HO2.out HS3.out HO3.out).2, HK3.out⟩
        · have HS2 := Lib.hid (SameIn.refl f1 a mid)
          have HO2 := Lib.hid (HSP.out.left hs1 hs5 hle)
          have HK2 := HK1
          clear HK1
          obtain ⟨f2, hf2⟩ : ∃ f2, f1 = f2 := ⟨_, rfl⟩
          have HK2q : Hid (RowF w0 g n cap f2 _) := Lib.hid (by rw [← hf2]; exact HK2.out)
          have HS2q : Hid (SameIn f1 f2 a mid) := Lib.hid (by rw [← hf2]; exact HS2.out)
          have HO2q : Hid (SrtB f2 a mid) := Lib.hid (by rw [← hf2]; exact HO2.out)
          clear HK2 HS2 HO2 hf2
          have HK2 := HK2q
          have HS2 := HS2q
          have HO2 := HO2q
          clear HK2q HS2q HO2q
          by_cases hle1 : a < s
          · have dl1 : decide (a < s) = true := decide_eq_true hle1
            have dl2 : decide (s < mid) = false := decide_eq_false (by omega)
            have dl4 : ¬ s < mid := by omega
            clear hle
            by_cases hue : mid < e ∧ e < b
            · have du1 : decide (mid < e) = true := decide_eq_true hue.1
              have du2 : decide (e < b) = true := decide_eq_true hue.2
              have du3 := hue.1
              have du4 := hue.2
              have HCU := Lib.hid (HIH.out w0 g n cap mid e b f2 _ HK2.out hn hue.1 hue.2 hbn (by omega) (HSP.out.s3.congr fun q q1 _ => HS2.out.out q (.inr q1)) (HSP.out.s4.congr fun q q1 _ => HS2.out.out q (.inr (by omega))) (CrossB.mono HS2.out (.inl (Nat.le_refl _)) HSP.out.c2))
              clear hue
              go_wp2_with fail
              refine HCU.out.mono ?_
              rintro e' w7 ⟨rfl, f3, hsa, hso, h7⟩
              have HS3 := Lib.hid hsa
              have HO3 := Lib.hid hso
              have HK3 := Lib.hid h7
              clear hsa hso h7 HCU HK2
              go_wp2_with fail
              go_end0
              exact ⟨rfl, f3, (HSP.out.done ham2 hmb2 HS2.out HO2.out HS3.out HO3.out).1, (HSP.out.done ham2 hmb2 HS2.out HO2.out HS3.out HO3.out).2, HK3.out⟩
            · have HS3 := Lib.hid (SameIn.refl f2 mid b)
              have HO3 : Hid (SrtB f2 mid b) := Lib.hid ((HSP.out.right hs4 hs6 hue).congr fun q q1 _ => HS2.out.out q (.inr q1))
              have HK3 := HK2
              clear HK2
              by_cases hue1 : mid < e
              · have du1 : decide (mid < e) = true := decide_eq_true hue1
                have du2 : decide (e < b) = false := decide_eq_false (by omega)
                have du4 : ¬ e < b := by omega
                clear hue
                go_wp2_with fail
                go_end0
                exact ⟨rfl, f2, (HSP.out.done ham2 hmb2 HS2.out HO2.out HS3.out HO3.out).1, (HSP.out.done ham2 hmb2 HS2.out HO2.out HS3.out HO3.out).2, HK3.out⟩
              · have du1 : decide (mid < e) = false := decide_eq_false hue1
                clear hue
                go_wp2_with fail
                go_end0
                exact ⟨rfl, f2, (HSP.out.done ham2 hmb2 HS2.out HO2.out HS3.out HO3.out).1, (HSP.out.done ham2 hmb2 HS2.out HO2.out HS3.out HO3.out).2, HK3.out⟩
          · have dl1 : decide (a < s) = false := decide_eq_false hle1
            clear hle
            by_cases hue : mid < e ∧ e < b
            · have du1 : decide (mid < e) = true := decide_eq_true hue.1
              have du2 : decide (e < b) = true := decide_eq_true hue.2
              have du3 := hue.1
              have du4 := hue.2
              have HCU := Lib.hid (HIH.out w0 g n cap mid e b f2 _ HK2.out hn hue.1 hue.2 hbn (by omega) (HSP.out.s3.congr fun q q1 _ => HS2.out.out q (.inr q1)) (HSP.out.s4.congr fun q q1 _ => HS2.out.out q (.inr (by omega))) (CrossB.mono HS2.out (.inl (Nat.le_refl _)) HSP.out.c2))
              clear hue
              go_wp2_with fail
              refine HCU.out.mono ?_
              rintro e' w7 ⟨rfl, f3, hsa, hso, h7⟩
              have HS3 := Lib.hid hsa
              have HO3 := Lib.hid hso
              have HK3 := Lib.hid h7
              clear hsa hso h7 HCU HK2
              go_wp2_with fail
              go_end0
              exact ⟨rfl, f3, (HSP.out.done ham2 hmb2 HS2.out HO2.out HS3.out HO3.out).1, (HSP.out.done ham2 hmb2 HS2.out HO2.out HS3.out HO3.out).2, HK3.out⟩
            · have HS3 := Lib.hid (SameIn.refl f2 mid b)
              have HO3 : Hid (SrtB f2 mid b) := Lib.hid ((HSP.out.right hs4 hs6 hue).congr fun q q1 _ => HS2.out.out q (.inr q1))
              have HK3 := HK2
              clear HK2
              by_cases hue1 : mid < e
              · have du1 : decide (mid < e) = true := decide_eq_true hue1
                have du2 : decide (e < b) = false := decide_eq_false (by omega)
                have du4 : ¬ e < b := by omega
                clear hue
                go_wp2_with fail
                go_end0
                exact ⟨rfl, f2, (HSP.out.done ham2 hmb2 HS2.out HO2.out HS3.out HO3.out).1, (HSP.out.done ham2 hmb2 HS2.out HO2.out HS3.out HO3.out).2, HK3.out⟩
              · have du1 : decide (mid < e) = false := decide_eq_false hue1
                clear hue
                go_wp2_with fail
                go_end0
                exact ⟨rfl, f2, (HSP.out.done ham2 hmb2 HS2.out HO2.out HS3.out HO3.out).1, (HSP.out.done ham2 hmb2 HS2.out HO2.out HS3.out HO3.out).2, HK3.out⟩
      · have HK1 : Hid (RowF w0 g n cap f1 wr) := Lib.hid (by rw [← HF1.out, rotF_none (by omega) hs2 hs3]; exact HK.out)
        clear HK
        by_cases hsm2 : s < m
        · have dr1 : decide (s < m) = true := decide_eq_true hsm2
          have dr2 : decide (m < e) = false := decide_eq_false (by omega)
          have hme2 : ¬ m < e := by omega
          clear hrot
          by_cases hle : a < s ∧ s < mid
          · have dl1 : decide (a < s) = true := decide_eq_true hle.1
            have dl2 : decide (s < mid) = true := decide_eq_true hle.2
            have dl3 := hle.1
            have dl4 := hle.2
            have HCL := Lib.hid (HIH.out w0 g n cap a s mid f1 _ HK1.out hn hle.1 hle.2 (by omega) (by omega) HSP.out.s1 HSP.out.s2 HSP.out.c1)
            clear hle
            go_wp2_with fail
            refine HCL.out.mono ?_
            rintro e w6 ⟨rfl, f2, hsa, hso, h6⟩
            have HS2 := Lib.hid hsa
            have HO2 := Lib.hid hso
            have HK2 := Lib.hid h6
            clear hsa hso h6 HCL HK1
            by_cases hue : mid < e ∧ e < b
            · have du1 : decide (mid < e) = true := decide_eq_true hue.1
              have du2 : decide (e < b) = true := decide_eq_true hue.2
              have du3 := hue.1
              have du4 := hue.2
              have HCU := Lib.hid (HIH.out w0 g n cap mid e b f2 _ HK2.out hn hue.1 hue.2 hbn (by omega) (HSP.out.s3.congr fun q q1 _ => HS2.out.out q (.inr q1)) (HSP.out.s4.congr fun q q1 _ => HS2.out.out q (.inr (by omega))) (CrossB.mono HS2.out (.inl (Nat.le_refl _)) HSP.out.c2))
              clear hue
              go_wp2_with fail
              refine HCU.out.mono ?_
              rintro e' w7 ⟨rfl, f3, hsa, hso, h7⟩
              have HS3 := Lib.hid hsa
              have HO3 := Lib.hid hso
              have HK3 := Lib.hid h7
              clear hsa hso h7 HCU HK2
              go_wp2_with fail
              go_end0
              exact ⟨rfl, f3, (HSP.out.done ham2 hmb2 HS2.out HO2.out HS3.out HO3.out).1, (HSP.out.done ham2 hmb2 HS2.out HO2.out HS3.out HO3.out).2, HK3.out⟩
            · have HS3 := Lib.hid (SameIn.refl f2 mid b)
              have HO3 : Hid (SrtB f2 mid b) := Lib.hid ((HSP.out.right hs4 hs6 hue).congr fun q q1 _ => HS2.out.out q (.inr q1))
              have HK3 := HK2
              clear HK2
              by_cases hue1 : mid < e
              · have du1 : decide (mid < e) = true := decide_eq_true hue1
                have du2 : decide (e < b) = false := decide_eq_false (by omega)
                have du4 : ¬ e < b := by omega
                clear hue
                go_wp2_with fail
                go_end0
                exact ⟨rfl, f2, (HSP.out.done ham2 hmb2 HS2.out HO2.out HS3.out HO3.out).1, (HSP.out.done ham2 hmb2 HS2.out HO2.out HS3.out HO3.out).2, HK3.out⟩
              · have du1 : decide (mid < e) = false := decide_eq_false hue1
                clear hue
                go_wp2_with fail
                go_end0
                exact ⟨rfl, f2, (HSP.out.done ham2 hmb2 HS2.out HO2.out HS3.out HO3.out).1, (HSP.out.done ham2 hmb2 HS2.out HO2.out HS3.out HO3.out).2, HK3.out⟩
          · have HS2 := Lib.hid (SameIn.refl f1 a mid)
            have HO2 := Lib.hid (HSP.out.left hs1 hs5 hle)
            have HK2 := HK1
            clear HK1
            obtain ⟨f2, hf2⟩ : ∃ f2, f1 = f2 := ⟨_, rfl⟩
            have HK2q : Hid (RowF w0 g n cap f2 _) := Lib.hid (by rw [← hf2]; exact HK2.out)
            have HS2q : Hid (SameIn f1 f2 a mid) := Lib.hid (by rw [← hf2]; exact HS2.out)
            have HO2q : Hid (SrtB f2 a mid) := Lib.hid (by rw [← hf2]; exact HO2.out)
            clear HK2 HS2 HO2 hf2
            have HK2 := HK2q
            have HS2 := HS2q
            have HO2 := HO2q
            clear HK2q HS2q HO2q
            by_cases hle1 : a < s
            · have dl1 : decide (a < s) = true := decide_eq_true hle1
              have dl2 : decide (s < mid) = false := decide_eq_false (by omega)
              have dl4 : ¬ s < mid := by omega
              clear hle
              by_cases hue : mid < e ∧ e < b
              · have du1 : decide (mid < e) = true := decide_eq_true hue.1
                have du2 : decide (e < b) = true := decide_eq_true hue.2
                have du3 := hue.1
                have du4 := hue.2
                have HCU := Lib.hid (HIH.out w0 g n cap mid e b f2 _ HK2.out hn hue.1 hue.2 hbn (by omega) (HSP.out.s3.congr fun q q1 _ => HS2.out.out q (.inr q1)) (HSP.out.s4.congr fun q q1 _ => HS2.out.out q (.inr (by omega))) (CrossB.mono HS2.out (.inl (Nat.le_refl _)) HSP.out.c2))
                clear hue
                go_wp2_with fail
                refine HCU.out.mono ?_
                rintro e' w7 ⟨rfl, f3, hsa, hso, h7⟩
                have HS3 := Lib.hid hsa
                have HO3 := Lib.hid hso
                have HK3 := Lib.hid h7
                clear hsa hso h7 HCU HK2
                go_wp2_with fail
                go_end0
                exact ⟨rfl, f3, (HSP.out.done ham2 hmb2 HS2.out HO2.out HS3.out HO3.out).1, (HSP.out.done ham2 hmb2 HS2.out HO2.out HS3.out HO3.out).2, HK3.out⟩
              · have HS3 := Lib.hid (SameIn.refl f2 mid b)
                have HO3 : Hid (SrtB f2 mid b) := Lib.hid ((HSP.out.right hs4 hs6 hue).congr fun q q1 _ => HS2.out.out q (.inr q1))
                have HK3 := HK2
                clear HK2
                by_cases hue1 : mid < e
                · have du1 : decide (mid < e) = true := decide_eq_true hue1
                  have du2 : decide (e < b) = false := decide_eq_false (by omega)
                  have du4 : ¬ e < b := by omega
                  clear hue
                  go_wp2_with fail
                  go_end0
                  exact ⟨rfl, f2, (HSP.out.done ham2 hmb2 HS2.out HO2.out HS3.out HO3.out).1, (HSP.out.done ham2 hmb2 HS2.out HO2.out HS3.out HO3.out).2, HK3.out⟩
                · have du1 : decide (mid < e) = false := decide_eq_false hue1
                  clear hue
                  go_wp2_with fail
                  go_end0
                  exact ⟨rfl, f2, (HSP.out.done ham2 hmb2 HS2.out HO2.out HS3.out HO3.out).1, (HSP.out.done ham2 hmb2 HS2.out HO2.out HS3.out HO3.out).2, HK3.out⟩
            · have dl1 : decide (a < s) = false := decide_eq_false hle1
              clear hle
              by_cases hue : mid < e ∧ e < b
              · have du1 : decide (mid < e) = true := decide_eq_true hue.1
                have du2 : decide (e < b) = true := decide_eq_true hue.2
                have du3 := hue.1
                have du4 := hue.2
                have HCU := Lib.hid (HIH.out w0 g n cap mid e b f2 _ HK2.out hn hue.1 hue.2 hbn (by omega) (HSP.out.s3.congr fun q q1 _ => HS2.out.out q (.inr q1)) (HSP.out.s4.congr fun q q1 _ => HS2.out.out q (.inr (by omega))) (CrossB.mono HS2.out (.inl (Nat.le_refl _)) HSP.out.c2))
                clear hue
                go_wp2_with fail
                refine HCU.out.mono ?_
                rintro e' w7 ⟨rfl, f3, hsa, hso, h7⟩
                have HS3 := Lib.hid hsa
                have HO3 := Lib.hid hso
                have HK3 := Lib.hid h7
                clear hsa hso h7 HCU HK2
                go_wp2_with fail
                go_end0
                exact ⟨rfl, f3, (HSP.out.done ham2 hmb2 HS2.out HO2.out HS3.out HO3.out).1, (HSP.out.done ham2 hmb2 HS2.out HO2.out HS3.out HO3.out).2, HK3.out⟩
              · have HS3 := Lib.hid (SameIn.refl f2 mid b)
                have HO3 : Hid (SrtB f2 mid b) := Lib.hid ((HSP.out.right hs4 hs6 hue).congr fun q q1 _ => HS2.out.out q (.inr q1))
                have HK3 := HK2
                clear HK2
                by_cases hue1 : mid < e
                · have du1 : decide (mid < e) = true := decide_eq_true hue1
                  have du2 : decide (e < b) = false := decide_eq_false (by omega)
                  have du4 : ¬ e < b := by omega
                  clear hue
                  go_wp2_with fail
                  go_end0
                  exact ⟨rfl, f2, (HSP.out.done ham2 hmb2 HS2.out HO2.out HS3.out HO3.out).1, (HSP.out.done ham2 hmb2 HS2.out HO2.out HS3.out HO3.out).2, HK3.out⟩
                · have du1 : decide (mid < e) = false := decide_eq_false hue1
                  clear hue
                  go_wp2_with fail
                  go_end0
                  exact ⟨rfl, f2, (HSP.out.done ham2 hmb2 HS2.out HO2.out HS3.out HO3.out).1, (HSP.out.done ham2 hmb2 HS2.out HO2.out HS3.out HO3.out).2, HK3.out⟩
        · have dr1 : decide (s < m) = false := decide_eq_false hsm2
          clear hrot
          by_cases hle : a < s ∧ s < mid
          · have dl1 : decide (a < s) = true := decide_eq_true hle.1
            have dl2 : decide (s < mid) = true := decide_eq_true hle.2
            have dl3 := hle.1
            have dl4 := hle.2
            have HCL := Lib.hid (HIH.out w0 g n cap a s mid f1 _ HK1.out hn hle.1 hle.2 (by omega) (by omega) HSP.out.s1 HSP.out.s2 HSP.out.c1)
            clear hle
            go_wp2_with fail
            refine HCL.out.mono ?_
            rintro e w6 ⟨rfl, f2, hsa, hso, h6⟩
            have HS2 := Lib.hid hsa
            have HO2 := Lib.hid hso
            have HK2 := Lib.hid h6
            clear hsa hso h6 HCL HK1
            by_cases hue : mid < e ∧ e < b
            · have du1 : decide (mid < e) = true := decide_eq_true hue.1
              have du2 : decide (e < b) = true := decide_eq_true hue.2
              have du3 := hue.1
              have du4 := hue.2
              have HCU := Lib.hid (HIH.out w0 g n cap mid e b f2 _ HK2.out hn hue.1 hue.2 hbn (by omega) (HSP.out.s3.congr fun q q1 _ => HS2.out.out q (.inr q1)) (HSP.out.s4.congr fun q q1 _ => HS2.out.out q (.inr (by omega))) (CrossB.mono HS2.out (.inl (Nat.le_refl _)) HSP.out.c2))
              clear hue
              go_wp2_with fail
              refine HCU.out.mono ?_
              rintro e' w7 ⟨rfl, f3, hsa, hso, h7⟩
              have HS3 := Lib.hid hsa
              have HO3 := Lib.hid hso
              have HK3 := Lib.hid h7
              clear hsa hso h7 HCU HK2
              go_wp2_with fail
              go_end0
              exact ⟨rfl, f3, (HSP.out.done ham2 hmb2 HS2.out HO2.out HS3.out HO3.out).1, (HSP.out.done ham2 hmb2 HS2.out HO2.out HS3.out HO3.out).2, HK3.out⟩
            · have HS3 := Lib.hid (SameIn.refl f2 mid b)
              have HO3 : Hid (SrtB f2 mid b) := Lib.hid ((HSP.out.right hs4 hs6 hue).congr fun q q1 _ => HS2.out.out q (.inr q1))
              have HK3 := HK2
              clear HK2
              by_cases hue1 : mid < e
              · have du1 : decide (mid < e) = true := decide_eq_true hue1
                have du2 : decide (e < b) = false := decide_eq_false (by omega)
                have du4 : ¬ e < b := by omega
                clear hue
                go_wp2_with fail
                go_end0
                exact ⟨rfl, f2, (HSP.out.done ham2 hmb2 HS2.out HO2.out HS3.out HO3.out).1, (HSP.out.done ham2 hmb2 HS2.out HO2.out HS3.out HO3.out).2, HK3.out⟩
              · have du1 : decide (mid < e) = false := decide_eq_false hue1
                clear hue
                go_wp2_with fail
                go_end0
                exact ⟨rfl, f2, (HSP.out.done ham2 hmb2 HS2.out HO2.out HS3.out HO3.out).1, (HSP.out.done ham2 hmb2 HS2.out HO2.out HS3.out HO3.out).2, HK3.out⟩
          · have HS2 := Lib.hid (SameIn.refl f1 a mid)
            have HO2 := Lib.hid (HSP.out.left hs1 hs5 hle)
            have HK2 := HK1
            clear HK1
            obtain ⟨f2, hf2⟩ : ∃ f2, f1 = f2 := ⟨_, rfl⟩
            have HK2q : Hid (RowF w0 g n cap f2 _) := Lib.hid (by rw [← hf2]; exact HK2.out)
            have HS2q : Hid (SameIn f1 f2 a mid) := Lib.hid (by rw [← hf2]; exact HS2.out)
            have HO2q : Hid (SrtB f2 a mid) := Lib.hid (by rw [← hf2]; exact HO2.out)
            clear HK2 HS2 HO2 hf2
            have HK2 := HK2q
            have HS2 := HS2q
            have HO2 := HO2q
            clear HK2q HS2q HO2q
            by_cases hle1 : a < s
            · have dl1 : decide (a < s) = true := decide_eq_true hle1
              have dl2 : decide (s < mid) = false := decide_eq_false (by omega)
              have dl4 : ¬ s < mid := by omega
              clear hle
              by_cases hue : mid < e ∧ e < b
              · have du1 : decide (mid < e) = true := decide_eq_true hue.1
                have du2 : decide (e < b) = true := decide_eq_true hue.2
                have du3 := hue.1
                have du4 := hue.2
                have HCU := Lib.hid (HIH.out w0 g n cap mid e b f2 _ HK2.out hn hue.1 hue.2 hbn (by omega) (HSP.out.s3.congr fun q q1 _ => HS2.out.out q (.inr q1)) (HSP.out.s4.congr fun q q1 _ => HS2.out.out q (.inr (by omega))) (CrossB.mono HS2.out (.inl (Nat.le_refl _)) HSP.out.c2))
                clear hue
                go_wp2_with fail
                refine HCU.out.mono ?_
                rintro e' w7 ⟨rfl, f3, hsa, hso, h7⟩
                have HS3 := Lib.hid hsa
                have HO3 := Lib.hid hso
                have HK3 := Lib.hid h7
                clear hsa hso h7 HCU HK2
                go_wp2_with fail
                go_end0
                exact ⟨rfl, f3, (HSP.out.done ham2 hmb2 HS2.out HO2.out HS3.out HO3.out).1, (HSP.out.done ham2 hmb2 HS2.out HO2.out HS3.out HO3.out).2, HK3.out⟩
              · have HS3 := Lib.hid (SameIn.refl f2 mid b)
                have HO3 : Hid (SrtB f2 mid b) := Lib.hid ((HSP.out.right hs4 hs6 hue).congr fun q q1 _ => HS2.out.out q (.inr q1))
                have HK3 := HK2
                clear HK2
                by_cases hue1 : mid < e
                · have du1 : decide (mid < e) = true := decide_eq_true hue1
                  have du2 : decide (e < b) = false := decide_eq_false (by omega)
                  have du4 : ¬ e < b := by omega
                  clear hue
                  go_wp2_with fail
                  go_end0
                  exact ⟨rfl, f2, (HSP.out.done ham2 hmb2 HS2.out HO2.out HS3.out HO3.out).1, (HSP.out.done ham2 hmb2 HS2.out HO2.out HS3.out HO3.out).2, HK3.out⟩
                · have du1 : decide (mid < e) = false := decide_eq_false hue1
                  clear hue
                  go_wp2_with fail
                  go_end0
                  exact ⟨rfl, f2, (HSP.out.done ham2 hmb2 HS2.out HO2.out HS3.out HO3.out).1, (HSP.out.done ham2 hmb2 HS2.out HO2.out HS3.out HO3.out).2, HK3.out⟩
            · have dl1 : decide (a < s) = false := decide_eq_false hle1
              clear hle
              by_cases hue : mid < e ∧ e < b
              · have du1 : decide (mid < e) = true := decide_eq_true hue.1
                have du2 : decide (e < b) = true := decide_eq_true hue.2
                have du3 := hue.1
                have du4 := hue.2
                have HCU := Lib.hid (HIH.out w0 g n cap mid e b f2 _ HK2.out hn hue.1 hue.2 hbn (by omega) (HSP.out.s3.congr fun q q1 _ => HS2.out.out q (.inr q1)) (HSP.out.s4.congr fun q q1 _ => HS2.out.out q (.inr (by omega))) (CrossB.mono HS2.out (.inl (Nat.le_refl _)) HSP.out.c2))
                clear hue
                go_wp2_with fail
                refine HCU.out.mono ?_
                rintro e' w7 ⟨rfl, f3, hsa, hso, h7⟩
                have HS3 := Lib.hid hsa
                have HO3 := Lib.hid hso
                have HK3 := Lib.hid h7
                clear hsa hso h7 HCU HK2
                go_wp2_with fail
                go_end0
                exact ⟨rfl, f3, (HSP.out.done ham2 hmb2 HS2.out HO2.out HS3.out HO3.out).1, (HSP.out.done ham2 hmb2 HS2.out HO2.out HS3.out HO3.out).2, HK3.out⟩
              · have HS3 := Lib.hid (SameIn.refl f2 mid b)
                have HO3 : Hid (SrtB f2 mid b) := Lib.hid ((HSP.out.right hs4 hs6 hue).congr fun q q1 _ => HS2.out.out q (.inr q1))
                have HK3 := HK2
                clear HK2
                by_cases hue1 : mid < e
                · have du1 : decide (mid < e) = true := decide_eq_true hue1
                  have du2 : decide (e < b) = false := decide_eq_false (by omega)
                  have du4 : ¬ e < b := by omega
                  clear hue
                  go_wp2_with fail
                  go_end0
                  exact ⟨rfl, f2, (HSP.out.done ham2 hmb2 HS2.out HO2.out HS3.out HO3.out).1, (HSP.out.done ham2 hmb2 HS2.out HO2.out HS3.out HO3.out).2, HK3.out⟩
                · have du1 : decide (mid < e) = false := decide_eq_false hue1
                  clear hue
                  go_wp2_with fail
                  go_end0
                  exact ⟨rfl, f2, (HSP.out.done ham2 hmb2 HS2.out HO2.out HS3.out HO3.out).1, (HSP.out.done ham2 hmb2 HS2.out HO2.out HS3.out HO3.out).2, HK3.out⟩

set_option maxRecDepth 100000 in
set_option maxHeartbeats 8000000 in
theorem sym_restS (w0 : World) (g n cap a m b : Nat) (f : JF) (w : World) (hr : RowF w0 g n cap f w) (hn : n ≤ 1000) (ham : a < m) (hmb : m < b) (hbn : b ≤ n) (h1 : SrtB f a m) (h2 : SrtB f m b) (hc : CrossB f a m b) (h1m : m ≠ a + 1) (hb1 : b ≠ m + 1) (N : Nat) (hN : b - a ≤ N + 1) (ih : SymIH N) (mid : Nat) (hmid : (a + b) / 2 = mid) (hbig : ¬ mid < m) :
    Calls Try.prog 61 #[.slice (some ⟨g, 0, none⟩) n cap, .int .i64 a, .int .i64 m, .int .i64 b, .func (.func 27) #[] #[]] w (fun e w' => e = .returned (.tuple #[]) ∧ ∃ f', SameIn f f' a b ∧ SrtB f' a b ∧ RowF w0 g n cap f' w') := by
  have HR := Lib.hid hr
  have H1 := Lib.hid h1
  have H2 := Lib.hid h2
  have HC := Lib.hid hc
  have eg := eg_urg
  have mixed : Try.prog.follows .mixedOrders = true := by kernel_rfl
  clear hr h1 h2 hc
  have HIH := Lib.hid ih
  have _u := h1m
  clear _u
  have dma : (((m : Int) - (a : Int)) == 1) = false := beq_eq_false_iff_ne.2 (by omega)
  have dbm : (((b : Int) - (m : Int)) == 1) = false := beq_eq_false_iff_ne.2 (by omega)
  have hmidz : ((a : Int) + (b : Int)) / 2 = (mid : Int) := by omega
  have ham2 : a ≤ mid := by omega
  have hmb2 : mid ≤ b := by omega
  have hamid : a < mid := by omega
  have hmidb : mid < b := by omega
  have hgt : decide (mid < m) = false := decide_eq_false hbig
  have hgtz : ¬ (mid : Int) < (m : Int) := by omega
  clear ih hmid
  go_enter Try.func61, Try.ntmps61
  go_wp2_with fail
  go_loopg [20, 21] b (fun kx vi vj wr => ∃ (s r : Nat), vi = .int .i64 s ∧ vj = .int .i64 r ∧ a ≤ s ∧ s ≤ r ∧ r ≤ m ∧ r - s ≤ kx ∧ (s = a ∨ Before (f (s - 1)) (f (mid + m - s))) ∧ (r = m ∨ Before (f (mid + m - 1 - r)) (f r)) ∧ RowF w0 g n cap f wr)
  case atStart => exact ⟨a, m, rfl, rfl, Nat.le_refl _, by omega, Nat.le_refl _, by omega, .inl rfl, .inl rfl, HR.out⟩
  case round =>
    clear HR
    obtain ⟨s, r, rfl, rfl, hlo, hlh, hhi, hkx, hl1, hl2, hrow⟩ := hrel
    have HL1 := Lib.hid hl1
    have HL2 := Lib.hid hl2
    have HK := Lib.hid hrow
    clear hl1 hl2 hrow
    by_cases hlt : s < r
    · obtain ⟨h, hh⟩ : ∃ h : Nat, (s + r) / 2 = h := ⟨_, rfl⟩
      have hh1 : s ≤ h ∧ h < r := by omega
      have e1' : ((s : Int) + (r : Int)) / 2 = (h : Int) := by omega
      have hhn : h < n := by omega
      have hhz : (h : Int) < (n : Int) := by omega
      obtain ⟨pq, hp⟩ : ∃ p : Nat, mid + m - 1 - h = p := ⟨_, rfl⟩
      have hpz : (mid : Int) + (m : Int) - 1 - (h : Int) = (pq : Int) := by omega
      have hpn : pq < n := by omega
      have hpnz : (pq : Int) < (n : Int) := by omega
      obtain ⟨x, hx⟩ : ∃ x, f h = x := ⟨_, rfl⟩
      obtain ⟨y, hy⟩ : ∃ y, f pq = y := ⟨_, rfl⟩
      have HX := Lib.hid hx
      have HY := Lib.hid hy
      have HXY : Hid (x.id < y.id) := Lib.hid (by rw [← hx, ← hy]; exact HC.out h pq (by omega) (by omega) (by omega) (by omega))
      have HP := Lib.hid hp
      clear hh hx hy hp
      have hgl := HK.out.lt.2
      obtain ⟨A3, m3, c3, ⟨e0, e1, e2, e3, e4, e5, e6, e7, e8, e9, e10, e11, e12⟩, hey⟩ := HK.out.at (k := pq) hpn
      obtain ⟨A4, m4, c4, ⟨o0, o1, o2, o3, o4, o5, o6, o7, o8, o9, o10, o11, o12⟩, hex⟩ := HK.out.at (k := h) hhn
      rw [HY.out] at hey e0 e1 e2 e3 e4 e5 e6 e7 e9 e10 e11 e12
      rw [HX.out] at hex o0 o1 o2 o3 o4 o5 o6 o7 o9 o10 o11 o12
      clear hex hey
      have hul := urg_lt y x
      obtain ⟨r', hrr⟩ : ∃ r', cmp3 x.spec.prio y.spec.prio = r' := ⟨_, rfl⟩
      rw [hrr] at hul
      have RR := Lib.hid hrr
      clear hrr
      by_cases hu : UrgB y x
      · rw [decide_eq_true hu] at hul
        have HN : Hid (h = m ∨ Before (f (mid + m - 1 - h)) (f h)) := Lib.hid (.inr (by rw [HP.out, HX.out, HY.out]; exact (urg_before HXY.out).1 hu))
        clear hu
        go_wp2_with fail
        have zc0 : ∀ p : Later wr, p.now.cell? ⟨g, pq * 13, none⟩ = some (.int .i64 y.id) := fun _ => Later.cell hgl e0
        have zc1 : ∀ p : Later wr, p.now.cell? ⟨g, pq * 13 + 1, none⟩ = some (.int .i64 y.spec.nodes) := fun _ => Later.cell hgl e1
        have zc2 : ∀ p : Later wr, p.now.cell? ⟨g, pq * 13 + 2, none⟩ = some (.int .i64 y.spec.cores) := fun _ => Later.cell hgl e2
        have zc3 : ∀ p : Later wr, p.now.cell? ⟨g, pq * 13 + 3, none⟩ = some (.int .i64 y.spec.gpus) := fun _ => Later.cell hgl e3
        have zc4 : ∀ p : Later wr, p.now.cell? ⟨g, pq * 13 + 4, none⟩ = some (.string y.spec.tag) := fun _ => Later.cell hgl e4
        have zc5 : ∀ p : Later wr, p.now.cell? ⟨g, pq * 13 + 5, none⟩ = some (.bool y.spec.whole) := fun _ => Later.cell hgl e5
        have zc6 : ∀ p : Later wr, p.now.cell? ⟨g, pq * 13 + 6, none⟩ = some (.int .i64 y.spec.long) := fun _ => Later.cell hgl e6
        have zc7 : ∀ p : Later wr, p.now.cell? ⟨g, pq * 13 + 7, none⟩ = some (.int .i64 y.spec.prio) := fun _ => Later.cell hgl e7
        have zc8 : ∀ p : Later wr, p.now.cell? ⟨g, pq * 13 + 8, none⟩ = some (.slice A3 m3 c3) := fun _ => Later.cell hgl e8
        have zc9 : ∀ p : Later wr, p.now.cell? ⟨g, pq * 13 + 9, none⟩ = some (.int .i64 y.state) := fun _ => Later.cell hgl e9
        have zc10 : ∀ p : Later wr, p.now.cell? ⟨g, pq * 13 + 10, none⟩ = some (.int .i64 y.came) := fun _ => Later.cell hgl e10
        have zc11 : ∀ p : Later wr, p.now.cell? ⟨g, pq * 13 + 11, none⟩ = some (.int .i64 y.frm) := fun _ => Later.cell hgl e11
        have zc12 : ∀ p : Later wr, p.now.cell? ⟨g, pq * 13 + 12, none⟩ = some (.int .i64 y.to) := fun _ => Later.cell hgl e12
        have zc13 : ∀ p : Later wr, p.now.cell? ⟨g, h * 13, none⟩ = some (.int .i64 x.id) := fun _ => Later.cell hgl o0
        have zc14 : ∀ p : Later wr, p.now.cell? ⟨g, h * 13 + 1, none⟩ = some (.int .i64 x.spec.nodes) := fun _ => Later.cell hgl o1
        have zc15 : ∀ p : Later wr, p.now.cell? ⟨g, h * 13 + 2, none⟩ = some (.int .i64 x.spec.cores) := fun _ => Later.cell hgl o2
        have zc16 : ∀ p : Later wr, p.now.cell? ⟨g, h * 13 + 3, none⟩ = some (.int .i64 x.spec.gpus) := fun _ => Later.cell hgl o3
        have zc17 : ∀ p : Later wr, p.now.cell? ⟨g, h * 13 + 4, none⟩ = some (.string x.spec.tag) := fun _ => Later.cell hgl o4
        have zc18 : ∀ p : Later wr, p.now.cell? ⟨g, h * 13 + 5, none⟩ = some (.bool x.spec.whole) := fun _ => Later.cell hgl o5
        have zc19 : ∀ p : Later wr, p.now.cell? ⟨g, h * 13 + 6, none⟩ = some (.int .i64 x.spec.long) := fun _ => Later.cell hgl o6
        have zc20 : ∀ p : Later wr, p.now.cell? ⟨g, h * 13 + 7, none⟩ = some (.int .i64 x.spec.prio) := fun _ => Later.cell hgl o7
        have zc21 : ∀ p : Later wr, p.now.cell? ⟨g, h * 13 + 8, none⟩ = some (.slice A4 m4 c4) := fun _ => Later.cell hgl o8
        have zc22 : ∀ p : Later wr, p.now.cell? ⟨g, h * 13 + 9, none⟩ = some (.int .i64 x.state) := fun _ => Later.cell hgl o9
        have zc23 : ∀ p : Later wr, p.now.cell? ⟨g, h * 13 + 10, none⟩ = some (.int .i64 x.came) := fun _ => Later.cell hgl o10
        have zc24 : ∀ p : Later wr, p.now.cell? ⟨g, h * 13 + 11, none⟩ = some (.int .i64 x.frm) := fun _ => Later.cell hgl o11
        have zc25 : ∀ p : Later wr, p.now.cell? ⟨g, h * 13 + 12, none⟩ = some (.int .i64 x.to) := fun _ => Later.cell hgl o12
        refine wp_region_later (by kernel_rfl) (by kernel_rfl) ?_
        repeat (first | go_big_quiet_skip | (go_big_quiet_want; go_big_quiet_op; first | go_big_quiet_on | (apply Exists.intro; refine ⟨fun pz => ?_, ?_⟩; (first | (go_at_call 27; exact Calls.later_of (urg_b RR.out)) | fail); go_big_quiet_on)))
        refine wpQuiet_nil ?_
        intro _ hw'
        obtain ⟨pz, rfl⟩ := hw'
        obtain ⟨w5, hb⟩ := pz
        try dsimp only
        clear zc0 zc1 zc2 zc3 zc4 zc5 zc6 zc7 zc8 zc9 zc10 zc11 zc12 zc13 zc14 zc15 zc16 zc17 zc18 zc19 zc20 zc21 zc22 zc23 zc24 zc25
        have HKq := Lib.hid (HK.out.next hb)
        clear HK
        have HK := HKq
        clear HKq
        clear hb
        clear e0 e1 e2 e3 e4 e5 e6 e7 e8 e9 e10 e11 e12 o0 o1 o2 o3 o4 o5 o6 o7 o8 o9 o10 o11 o12 hgl
        go_wp2_with fail
        go_roundg (h - s)
        case measure => omega
        case rel => exact ⟨s, h, rfl, rfl, hlo, by omega, by omega, Nat.le_refl _, HL1.out, HN.out, HK.out⟩
      · rw [decide_eq_false hu] at hul
        have HN : Hid (h + 1 = a ∨ Before (f (h + 1 - 1)) (f (mid + m - (h + 1)))) := Lib.hid (.inr (by rw [Nat.add_sub_cancel, show mid + m - (h + 1) = mid + m - 1 - h by omega, HP.out, HX.out, HY.out]; exact (urg_not HXY.out).1 hu))
        clear hu
        go_wp2_with fail
        have zc0 : ∀ p : Later wr, p.now.cell? ⟨g, pq * 13, none⟩ = some (.int .i64 y.id) := fun _ => Later.cell hgl e0
        have zc1 : ∀ p : Later wr, p.now.cell? ⟨g, pq * 13 + 1, none⟩ = some (.int .i64 y.spec.nodes) := fun _ => Later.cell hgl e1
        have zc2 : ∀ p : Later wr, p.now.cell? ⟨g, pq * 13 + 2, none⟩ = some (.int .i64 y.spec.cores) := fun _ => Later.cell hgl e2
        have zc3 : ∀ p : Later wr, p.now.cell? ⟨g, pq * 13 + 3, none⟩ = some (.int .i64 y.spec.gpus) := fun _ => Later.cell hgl e3
        have zc4 : ∀ p : Later wr, p.now.cell? ⟨g, pq * 13 + 4, none⟩ = some (.string y.spec.tag) := fun _ => Later.cell hgl e4
        have zc5 : ∀ p : Later wr, p.now.cell? ⟨g, pq * 13 + 5, none⟩ = some (.bool y.spec.whole) := fun _ => Later.cell hgl e5
        have zc6 : ∀ p : Later wr, p.now.cell? ⟨g, pq * 13 + 6, none⟩ = some (.int .i64 y.spec.long) := fun _ => Later.cell hgl e6
        have zc7 : ∀ p : Later wr, p.now.cell? ⟨g, pq * 13 + 7, none⟩ = some (.int .i64 y.spec.prio) := fun _ => Later.cell hgl e7
        have zc8 : ∀ p : Later wr, p.now.cell? ⟨g, pq * 13 + 8, none⟩ = some (.slice A3 m3 c3) := fun _ => Later.cell hgl e8
        have zc9 : ∀ p : Later wr, p.now.cell? ⟨g, pq * 13 + 9, none⟩ = some (.int .i64 y.state) := fun _ => Later.cell hgl e9
        have zc10 : ∀ p : Later wr, p.now.cell? ⟨g, pq * 13 + 10, none⟩ = some (.int .i64 y.came) := fun _ => Later.cell hgl e10
        have zc11 : ∀ p : Later wr, p.now.cell? ⟨g, pq * 13 + 11, none⟩ = some (.int .i64 y.frm) := fun _ => Later.cell hgl e11
        have zc12 : ∀ p : Later wr, p.now.cell? ⟨g, pq * 13 + 12, none⟩ = some (.int .i64 y.to) := fun _ => Later.cell hgl e12
        have zc13 : ∀ p : Later wr, p.now.cell? ⟨g, h * 13, none⟩ = some (.int .i64 x.id) := fun _ => Later.cell hgl o0
        have zc14 : ∀ p : Later wr, p.now.cell? ⟨g, h * 13 + 1, none⟩ = some (.int .i64 x.spec.nodes) := fun _ => Later.cell hgl o1
        have zc15 : ∀ p : Later wr, p.now.cell? ⟨g, h * 13 + 2, none⟩ = some (.int .i64 x.spec.cores) := fun _ => Later.cell hgl o2
        have zc16 : ∀ p : Later wr, p.now.cell? ⟨g, h * 13 + 3, none⟩ = some (.int .i64 x.spec.gpus) := fun _ => Later.cell hgl o3
        have zc17 : ∀ p : Later wr, p.now.cell? ⟨g, h * 13 + 4, none⟩ = some (.string x.spec.tag) := fun _ => Later.cell hgl o4
        have zc18 : ∀ p : Later wr, p.now.cell? ⟨g, h * 13 + 5, none⟩ = some (.bool x.spec.whole) := fun _ => Later.cell hgl o5
        have zc19 : ∀ p : Later wr, p.now.cell? ⟨g, h * 13 + 6, none⟩ = some (.int .i64 x.spec.long) := fun _ => Later.cell hgl o6
        have zc20 : ∀ p : Later wr, p.now.cell? ⟨g, h * 13 + 7, none⟩ = some (.int .i64 x.spec.prio) := fun _ => Later.cell hgl o7
        have zc21 : ∀ p : Later wr, p.now.cell? ⟨g, h * 13 + 8, none⟩ = some (.slice A4 m4 c4) := fun _ => Later.cell hgl o8
        have zc22 : ∀ p : Later wr, p.now.cell? ⟨g, h * 13 + 9, none⟩ = some (.int .i64 x.state) := fun _ => Later.cell hgl o9
        have zc23 : ∀ p : Later wr, p.now.cell? ⟨g, h * 13 + 10, none⟩ = some (.int .i64 x.came) := fun _ => Later.cell hgl o10
        have zc24 : ∀ p : Later wr, p.now.cell? ⟨g, h * 13 + 11, none⟩ = some (.int .i64 x.frm) := fun _ => Later.cell hgl o11
        have zc25 : ∀ p : Later wr, p.now.cell? ⟨g, h * 13 + 12, none⟩ = some (.int .i64 x.to) := fun _ => Later.cell hgl o12
        refine wp_region_later (by kernel_rfl) (by kernel_rfl) ?_
        repeat (first | go_big_quiet_skip | (go_big_quiet_want; go_big_quiet_op; first | go_big_quiet_on | (apply Exists.intro; refine ⟨fun pz => ?_, ?_⟩; (first | (go_at_call 27; exact Calls.later_of (urg_b RR.out)) | fail); go_big_quiet_on)))
        refine wpQuiet_nil ?_
        intro _ hw'
        obtain ⟨pz, rfl⟩ := hw'
        obtain ⟨w5, hb⟩ := pz
        try dsimp only
        clear zc0 zc1 zc2 zc3 zc4 zc5 zc6 zc7 zc8 zc9 zc10 zc11 zc12 zc13 zc14 zc15 zc16 zc17 zc18 zc19 zc20 zc21 zc22 zc23 zc24 zc25
        have HKq := Lib.hid (HK.out.next hb)
        clear HK
        have HK := HKq
        clear HKq
        clear hb
        clear e0 e1 e2 e3 e4 e5 e6 e7 e8 e9 e10 e11 e12 o0 o1 o2 o3 o4 o5 o6 o7 o8 o9 o10 o11 o12 hgl
        go_wp2_with fail
        go_roundg (r - (h + 1))
        case measure => omega
        case rel => exact ⟨h + 1, r, by go_num, rfl, by omega, by omega, hhi, Nat.le_refl _, HN.out, HL2.out, HK.out⟩
    · obtain rfl : s = r := by omega
      obtain ⟨e, he⟩ : ∃ e : Nat, mid + m - s = e := ⟨_, rfl⟩
      have hez : (mid : Int) + (m : Int) - (s : Int) = (e : Int) := by omega
      have hs1 : a ≤ s := by omega
      have hs2 : s ≤ m := by omega
      have hs3 : m ≤ e := by omega
      have hs4 : mid ≤ e := by omega
      have hs5 : s ≤ mid := by omega
      have hs6 : e ≤ b := by omega
      obtain ⟨f1, hf1⟩ : ∃ f1, rotF f s m e = f1 := ⟨_, rfl⟩
      have HF1 := Lib.hid hf1
      have HSP : Hid (Split f f1 a s mid e b) := Lib.hid (by
        rw [← hf1]
        refine split_rot H1.out H2.out HC.out hs1 hs2 hs3 hs6 (by omega) ?_ ?_
        · rcases HL1.out with h | h
          · omega
          · rw [he] at h; exact .inr (.inr h)
        · rcases HL2.out with h | h
          · omega
          · rw [show mid + m - 1 - s = e - 1 by omega] at h; exact .inr (.inr h))
      clear hf1 he hlt hlh HL1 HL2
      have hez2 : (mid : Int) + (m : Int) - (s : Int) = (e : Int) := hez
      by_cases hrot : s < m ∧ m < e
      · have dr1 : decide (s < m) = true := decide_eq_true hrot.1
        have dr2 : decide (m < e) = true := decide_eq_true hrot.2
        have dr3 := hrot.1
        have dr4 := hrot.2
        have HCR := Lib.hid (rotate_any w0 g n cap s m e f wr HK.out hn hrot.1 hrot.2 (by omega))
        rw [HF1.out] at HCR
        clear hrot
        go_wp2_with fail
        refine HCR.out.mono ?_
        rintro e w5 ⟨rfl, h5⟩
        have HK1 := Lib.hid h5
        clear h5 HCR HK
        by_cases hle : a < s ∧ s < mid
        · have dl1 : decide (a < s) = true := decide_eq_true hle.1
          have dl2 : decide (s < mid) = true := decide_eq_true hle.2
          have dl3 := hle.1
          have dl4 := hle.2
          have HCL := Lib.hid (HIH.out w0 g n cap a s mid f1 _ HK1.out hn hle.1 hle.2 (by omega) (by omega) HSP.out.s1 HSP.out.s2 HSP.out.c1)
          clear hle
          go_wp2_with fail
          refine HCL.out.mono ?_
          rintro e w6 ⟨rfl, f2, hsa, hso, h6⟩
          have HS2 := Lib.hid hsa
          have HO2 := Lib.hid hso
          have HK2 := Lib.hid h6
          clear hsa hso h6 HCL HK1
          by_cases hue : mid < e ∧ e < b
          · have du1 : decide (mid < e) = true := decide_eq_true hue.1
            have du2 : decide (e < b) = true := decide_eq_true hue.2
            have du3 := hue.1
            have du4 := hue.2
            have HCU := Lib.hid (HIH.out w0 g n cap mid e b f2 _ HK2.out hn hue.1 hue.2 hbn (by omega) (HSP.out.s3.congr fun q q1 _ => HS2.out.out q (.inr q1)) (HSP.out.s4.congr fun q q1 _ => HS2.out.out q (.inr (by omega))) (CrossB.mono HS2.out (.inl (Nat.le_refl _)) HSP.out.c2))
            clear hue
            go_wp2_with fail
            refine HCU.out.mono ?_
            rintro e' w7 ⟨rfl, f3, hsa, hso, h7⟩
            have HS3 := Lib.hid hsa
            have HO3 := Lib.hid hso
            have HK3 := Lib.hid h7
            clear hsa hso h7 HCU HK2
            go_wp2_with fail
            go_end0
            exact ⟨rfl, f3, (HSP.out.done ham2 hmb2 HS2.out HO2.out HS3.out HO3.out).1, (HSP.out.done ham2 hmb2 HS2.out HO2.out HS3.out HO3.out).2, HK3.out⟩
          · have HS3 := Lib.hid (SameIn.refl f2 mid b)
            have HO3 : Hid (SrtB f2 mid b) := Lib.hid ((HSP.out.right hs4 hs6 hue).congr fun q q1 _ => HS2.out.out q (.inr q1))
            have HK3 := HK2
            clear HK2
            by_cases hue1 : mid < e
            · have du1 : decide (mid < e) = true := decide_eq_true hue1
              have du2 : decide (e < b) = false := decide_eq_false (by omega)
              have du4 : ¬ e < b := by omega
              clear hue
              go_wp2_with fail
              go_end0
              exact ⟨rfl, f2, (HSP.out.done ham2 hmb2 HS2.out HO2.out HS3.out HO3.out).1, (HSP.out.done ham2 hmb2 HS2.out HO2.out HS3.out HO3.out).2, HK3.out⟩
            · have du1 : decide (mid < e) = false := decide_eq_false hue1
              clear hue
              go_wp2_with fail
              go_end0
              exact ⟨rfl, f2, (HSP.out.done ham2 hmb2 HS2.out HO2.out HS3.out HO3.out).1, (HSP.out.done ham2 hmb2 HS2.out HO2.out HS3.out HO3.out).2, HK3.out⟩
        · have HS2 := Lib.hid (SameIn.refl f1 a mid)
          have HO2 := Lib.hid (HSP.out.left hs1 hs5 hle)
          have HK2 := HK1
          clear HK1
          obtain ⟨f2, hf2⟩ : ∃ f2, f1 = f2 := ⟨_, rfl⟩
          have HK2q : Hid (RowF w0 g n cap f2 _) := Lib.hid (by rw [← hf2]; exact HK2.out)
          have HS2q : Hid (SameIn f1 f2 a mid) := Lib.hid (by rw [← hf2]; exact HS2.out)
          have HO2q : Hid (SrtB f2 a mid) := Lib.hid (by rw [← hf2]; exact HO2.out)
          clear HK2 HS2 HO2 hf2
          have HK2 := HK2q
          have HS2 := HS2q
          have HO2 := HO2q
          clear HK2q HS2q HO2q
          by_cases hle1 : a < s
          · have dl1 : decide (a < s) = true := decide_eq_true hle1
            have dl2 : decide (s < mid) = false := decide_eq_false (by omega)
            have dl4 : ¬ s < mid := by omega
            clear hle
            by_cases hue : mid < e ∧ e < b
            · have du1 : decide (mid < e) = true := decide_eq_true hue.1
              have du2 : decide (e < b) = true := decide_eq_true hue.2
              have du3 := hue.1
              have du4 := hue.2
              have HCU := Lib.hid (HIH.out w0 g n cap mid e b f2 _ HK2.out hn hue.1 hue.2 hbn (by omega) (HSP.out.s3.congr fun q q1 _ => HS2.out.out q (.inr q1)) (HSP.out.s4.congr fun q q1 _ => HS2.out.out q (.inr (by omega))) (CrossB.mono HS2.out (.inl (Nat.le_refl _)) HSP.out.c2))
              clear hue
              go_wp2_with fail
              refine HCU.out.mono ?_
              rintro e' w7 ⟨rfl, f3, hsa, hso, h7⟩
              have HS3 := Lib.hid hsa
              have HO3 := Lib.hid hso
              have HK3 := Lib.hid h7
              clear hsa hso h7 HCU HK2
              go_wp2_with fail
              go_end0
              exact ⟨rfl, f3, (HSP.out.done ham2 hmb2 HS2.out HO2.out HS3.out HO3.out).1, (HSP.out.done ham2 hmb2 HS2.out HO2.out HS3.out HO3.out).2, HK3.out⟩
            · have HS3 := Lib.hid (SameIn.refl f2 mid b)
              have HO3 : Hid (SrtB f2 mid b) := Lib.hid ((HSP.out.right hs4 hs6 hue).congr fun q q1 _ => HS2.out.out q (.inr q1))
              have HK3 := HK2
              clear HK2
              by_cases hue1 : mid < e
              · have du1 : decide (mid < e) = true := decide_eq_true hue1
                have du2 : decide (e < b) = false := decide_eq_false (by omega)
                have du4 : ¬ e < b := by omega
                clear hue
                go_wp2_with fail
                go_end0
                exact ⟨rfl, f2, (HSP.out.done ham2 hmb2 HS2.out HO2.out HS3.out HO3.out).1, (HSP.out.done ham2 hmb2 HS2.out HO2.out HS3.out HO3.out).2, HK3.out⟩
              · have du1 : decide (mid < e) = false := decide_eq_false hue1
                clear hue
                go_wp2_with fail
                go_end0
                exact ⟨rfl, f2, (HSP.out.done ham2 hmb2 HS2.out HO2.out HS3.out HO3.out).1, (HSP.out.done ham2 hmb2 HS2.out HO2.out HS3.out HO3.out).2, HK3.out⟩
          · have dl1 : decide (a < s) = false := decide_eq_false hle1
            clear hle
            by_cases hue : mid < e ∧ e < b
            · have du1 : decide (mid < e) = true := decide_eq_true hue.1
              have du2 : decide (e < b) = true := decide_eq_true hue.2
              have du3 := hue.1
              have du4 := hue.2
              have HCU := Lib.hid (HIH.out w0 g n cap mid e b f2 _ HK2.out hn hue.1 hue.2 hbn (by omega) (HSP.out.s3.congr fun q q1 _ => HS2.out.out q (.inr q1)) (HSP.out.s4.congr fun q q1 _ => HS2.out.out q (.inr (by omega))) (CrossB.mono HS2.out (.inl (Nat.le_refl _)) HSP.out.c2))
              clear hue
              go_wp2_with fail
              refine HCU.out.mono ?_
              rintro e' w7 ⟨rfl, f3, hsa, hso, h7⟩
              have HS3 := Lib.hid hsa
              have HO3 := Lib.hid hso
              have HK3 := Lib.hid h7
              clear hsa hso h7 HCU HK2
              go_wp2_with fail
              go_end0
              exact ⟨rfl, f3, (HSP.out.done ham2 hmb2 HS2.out HO2.out HS3.out HO3.out).1, (HSP.out.done ham2 hmb2 HS2.out HO2.out HS3.out HO3.out).2, HK3.out⟩
            · have HS3 := Lib.hid (SameIn.refl f2 mid b)
              have HO3 : Hid (SrtB f2 mid b) := Lib.hid ((HSP.out.right hs4 hs6 hue).congr fun q q1 _ => HS2.out.out q (.inr q1))
              have HK3 := HK2
              clear HK2
              by_cases hue1 : mid < e
              · have du1 : decide (mid < e) = true := decide_eq_true hue1
                have du2 : decide (e < b) = false := decide_eq_false (by omega)
                have du4 : ¬ e < b := by omega
                clear hue
                go_wp2_with fail
                go_end0
                exact ⟨rfl, f2, (HSP.out.done ham2 hmb2 HS2.out HO2.out HS3.out HO3.out).1, (HSP.out.done ham2 hmb2 HS2.out HO2.out HS3.out HO3.out).2, HK3.out⟩
              · have du1 : decide (mid < e) = false := decide_eq_false hue1
                clear hue
                go_wp2_with fail
                go_end0
                exact ⟨rfl, f2, (HSP.out.done ham2 hmb2 HS2.out HO2.out HS3.out HO3.out).1, (HSP.out.done ham2 hmb2 HS2.out HO2.out HS3.out HO3.out).2, HK3.out⟩
      · have HK1 : Hid (RowF w0 g n cap f1 wr) := Lib.hid (by rw [← HF1.out, rotF_none (by omega) hs2 hs3]; exact HK.out)
        clear HK
        by_cases hsm2 : s < m
        · have dr1 : decide (s < m) = true := decide_eq_true hsm2
          have dr2 : decide (m < e) = false := decide_eq_false (by omega)
          have hme2 : ¬ m < e := by omega
          clear hrot
          by_cases hle : a < s ∧ s < mid
          · have dl1 : decide (a < s) = true := decide_eq_true hle.1
            have dl2 : decide (s < mid) = true := decide_eq_true hle.2
            have dl3 := hle.1
            have dl4 := hle.2
            have HCL := Lib.hid (HIH.out w0 g n cap a s mid f1 _ HK1.out hn hle.1 hle.2 (by omega) (by omega) HSP.out.s1 HSP.out.s2 HSP.out.c1)
            clear hle
            go_wp2_with fail
            refine HCL.out.mono ?_
            rintro e w6 ⟨rfl, f2, hsa, hso, h6⟩
            have HS2 := Lib.hid hsa
            have HO2 := Lib.hid hso
            have HK2 := Lib.hid h6
            clear hsa hso h6 HCL HK1
            by_cases hue : mid < e ∧ e < b
            · have du1 : decide (mid < e) = true := decide_eq_true hue.1
              have du2 : decide (e < b) = true := decide_eq_true hue.2
              have du3 := hue.1
              have du4 := hue.2
              have HCU := Lib.hid (HIH.out w0 g n cap mid e b f2 _ HK2.out hn hue.1 hue.2 hbn (by omega) (HSP.out.s3.congr fun q q1 _ => HS2.out.out q (.inr q1)) (HSP.out.s4.congr fun q q1 _ => HS2.out.out q (.inr (by omega))) (CrossB.mono HS2.out (.inl (Nat.le_refl _)) HSP.out.c2))
              clear hue
              go_wp2_with fail
              refine HCU.out.mono ?_
              rintro e' w7 ⟨rfl, f3, hsa, hso, h7⟩
              have HS3 := Lib.hid hsa
              have HO3 := Lib.hid hso
              have HK3 := Lib.hid h7
              clear hsa hso h7 HCU HK2
              go_wp2_with fail
              go_end0
              exact ⟨rfl, f3, (HSP.out.done ham2 hmb2 HS2.out HO2.out HS3.out HO3.out).1, (HSP.out.done ham2 hmb2 HS2.out HO2.out HS3.out HO3.out).2, HK3.out⟩
            · have HS3 := Lib.hid (SameIn.refl f2 mid b)
              have HO3 : Hid (SrtB f2 mid b) := Lib.hid ((HSP.out.right hs4 hs6 hue).congr fun q q1 _ => HS2.out.out q (.inr q1))
              have HK3 := HK2
              clear HK2
              by_cases hue1 : mid < e
              · have du1 : decide (mid < e) = true := decide_eq_true hue1
                have du2 : decide (e < b) = false := decide_eq_false (by omega)
                have du4 : ¬ e < b := by omega
                clear hue
                go_wp2_with fail
                go_end0
                exact ⟨rfl, f2, (HSP.out.done ham2 hmb2 HS2.out HO2.out HS3.out HO3.out).1, (HSP.out.done ham2 hmb2 HS2.out HO2.out HS3.out HO3.out).2, HK3.out⟩
              · have du1 : decide (mid < e) = false := decide_eq_false hue1
                clear hue
                go_wp2_with fail
                go_end0
                exact ⟨rfl, f2, (HSP.out.done ham2 hmb2 HS2.out HO2.out HS3.out HO3.out).1, (HSP.out.done ham2 hmb2 HS2.out HO2.out HS3.out HO3.out).2, HK3.out⟩
          · have HS2 := Lib.hid (SameIn.refl f1 a mid)
            have HO2 := Lib.hid (HSP.out.left hs1 hs5 hle)
            have HK2 := HK1
            clear HK1
            obtain ⟨f2, hf2⟩ : ∃ f2, f1 = f2 := ⟨_, rfl⟩
            have HK2q : Hid (RowF w0 g n cap f2 _) := Lib.hid (by rw [← hf2]; exact HK2.out)
            have HS2q : Hid (SameIn f1 f2 a mid) := Lib.hid (by rw [← hf2]; exact HS2.out)
            have HO2q : Hid (SrtB f2 a mid) := Lib.hid (by rw [← hf2]; exact HO2.out)
            clear HK2 HS2 HO2 hf2
            have HK2 := HK2q
            have HS2 := HS2q
            have HO2 := HO2q
            clear HK2q HS2q HO2q
            by_cases hle1 : a < s
            · have dl1 : decide (a < s) = true := decide_eq_true hle1
              have dl2 : decide (s < mid) = false := decide_eq_false (by omega)
              have dl4 : ¬ s < mid := by omega
              clear hle
              by_cases hue : mid < e ∧ e < b
              · have du1 : decide (mid < e) = true := decide_eq_true hue.1
                have du2 : decide (e < b) = true := decide_eq_true hue.2
                have du3 := hue.1
                have du4 := hue.2
                have HCU := Lib.hid (HIH.out w0 g n cap mid e b f2 _ HK2.out hn hue.1 hue.2 hbn (by omega) (HSP.out.s3.congr fun q q1 _ => HS2.out.out q (.inr q1)) (HSP.out.s4.congr fun q q1 _ => HS2.out.out q (.inr (by omega))) (CrossB.mono HS2.out (.inl (Nat.le_refl _)) HSP.out.c2))
                clear hue
                go_wp2_with fail
                refine HCU.out.mono ?_
                rintro e' w7 ⟨rfl, f3, hsa, hso, h7⟩
                have HS3 := Lib.hid hsa
                have HO3 := Lib.hid hso
                have HK3 := Lib.hid h7
                clear hsa hso h7 HCU HK2
                go_wp2_with fail
                go_end0
                exact ⟨rfl, f3, (HSP.out.done ham2 hmb2 HS2.out HO2.out HS3.out HO3.out).1, (HSP.out.done ham2 hmb2 HS2.out HO2.out HS3.out HO3.out).2, HK3.out⟩
              · have HS3 := Lib.hid (SameIn.refl f2 mid b)
                have HO3 : Hid (SrtB f2 mid b) := Lib.hid ((HSP.out.right hs4 hs6 hue).congr fun q q1 _ => HS2.out.out q (.inr q1))
                have HK3 := HK2
                clear HK2
                by_cases hue1 : mid < e
                · have du1 : decide (mid < e) = true := decide_eq_true hue1
                  have du2 : decide (e < b) = false := decide_eq_false (by omega)
                  have du4 : ¬ e < b := by omega
                  clear hue
                  go_wp2_with fail
                  go_end0
                  exact ⟨rfl, f2, (HSP.out.done ham2 hmb2 HS2.out HO2.out HS3.out HO3.out).1, (HSP.out.done ham2 hmb2 HS2.out HO2.out HS3.out HO3.out).2, HK3.out⟩
                · have du1 : decide (mid < e) = false := decide_eq_false hue1
                  clear hue
                  go_wp2_with fail
                  go_end0
                  exact ⟨rfl, f2, (HSP.out.done ham2 hmb2 HS2.out HO2.out HS3.out HO3.out).1, (HSP.out.done ham2 hmb2 HS2.out HO2.out HS3.out HO3.out).2, HK3.out⟩
            · have dl1 : decide (a < s) = false := decide_eq_false hle1
              clear hle
              by_cases hue : mid < e ∧ e < b
              · have du1 : decide (mid < e) = true := decide_eq_true hue.1
                have du2 : decide (e < b) = true := decide_eq_true hue.2
                have du3 := hue.1
                have du4 := hue.2
                have HCU := Lib.hid (HIH.out w0 g n cap mid e b f2 _ HK2.out hn hue.1 hue.2 hbn (by omega) (HSP.out.s3.congr fun q q1 _ => HS2.out.out q (.inr q1)) (HSP.out.s4.congr fun q q1 _ => HS2.out.out q (.inr (by omega))) (CrossB.mono HS2.out (.inl (Nat.le_refl _)) HSP.out.c2))
                clear hue
                go_wp2_with fail
                refine HCU.out.mono ?_
                rintro e' w7 ⟨rfl, f3, hsa, hso, h7⟩
                have HS3 := Lib.hid hsa
                have HO3 := Lib.hid hso
                have HK3 := Lib.hid h7
                clear hsa hso h7 HCU HK2
                go_wp2_with fail
                go_end0
                exact ⟨rfl, f3, (HSP.out.done ham2 hmb2 HS2.out HO2.out HS3.out HO3.out).1, (HSP.out.done ham2 hmb2 HS2.out HO2.out HS3.out HO3.out).2, HK3.out⟩
              · have HS3 := Lib.hid (SameIn.refl f2 mid b)
                have HO3 : Hid (SrtB f2 mid b) := Lib.hid ((HSP.out.right hs4 hs6 hue).congr fun q q1 _ => HS2.out.out q (.inr q1))
                have HK3 := HK2
                clear HK2
                by_cases hue1 : mid < e
                · have du1 : decide (mid < e) = true := decide_eq_true hue1
                  have du2 : decide (e < b) = false := decide_eq_false (by omega)
                  have du4 : ¬ e < b := by omega
                  clear hue
                  go_wp2_with fail
                  go_end0
                  exact ⟨rfl, f2, (HSP.out.done ham2 hmb2 HS2.out HO2.out HS3.out HO3.out).1, (HSP.out.done ham2 hmb2 HS2.out HO2.out HS3.out HO3.out).2, HK3.out⟩
                · have du1 : decide (mid < e) = false := decide_eq_false hue1
                  clear hue
                  go_wp2_with fail
                  go_end0
                  exact ⟨rfl, f2, (HSP.out.done ham2 hmb2 HS2.out HO2.out HS3.out HO3.out).1, (HSP.out.done ham2 hmb2 HS2.out HO2.out HS3.out HO3.out).2, HK3.out⟩
        · have dr1 : decide (s < m) = false := decide_eq_false hsm2
          clear hrot
          by_cases hle : a < s ∧ s < mid
          · have dl1 : decide (a < s) = true := decide_eq_true hle.1
            have dl2 : decide (s < mid) = true := decide_eq_true hle.2
            have dl3 := hle.1
            have dl4 := hle.2
            have HCL := Lib.hid (HIH.out w0 g n cap a s mid f1 _ HK1.out hn hle.1 hle.2 (by omega) (by omega) HSP.out.s1 HSP.out.s2 HSP.out.c1)
            clear hle
            go_wp2_with fail
            refine HCL.out.mono ?_
            rintro e w6 ⟨rfl, f2, hsa, hso, h6⟩
            have HS2 := Lib.hid hsa
            have HO2 := Lib.hid hso
            have HK2 := Lib.hid h6
            clear hsa hso h6 HCL HK1
            by_cases hue : mid < e ∧ e < b
            · have du1 : decide (mid < e) = true := decide_eq_true hue.1
              have du2 : decide (e < b) = true := decide_eq_true hue.2
              have du3 := hue.1
              have du4 := hue.2
              have HCU := Lib.hid (HIH.out w0 g n cap mid e b f2 _ HK2.out hn hue.1 hue.2 hbn (by omega) (HSP.out.s3.congr fun q q1 _ => HS2.out.out q (.inr q1)) (HSP.out.s4.congr fun q q1 _ => HS2.out.out q (.inr (by omega))) (CrossB.mono HS2.out (.inl (Nat.le_refl _)) HSP.out.c2))
              clear hue
              go_wp2_with fail
              refine HCU.out.mono ?_
              rintro e' w7 ⟨rfl, f3, hsa, hso, h7⟩
              have HS3 := Lib.hid hsa
              have HO3 := Lib.hid hso
              have HK3 := Lib.hid h7
              clear hsa hso h7 HCU HK2
              go_wp2_with fail
              go_end0
              exact ⟨rfl, f3, (HSP.out.done ham2 hmb2 HS2.out HO2.out HS3.out HO3.out).1, (HSP.out.done ham2 hmb2 HS2.out HO2.out HS3.out HO3.out).2, HK3.out⟩
            · have HS3 := Lib.hid (SameIn.refl f2 mid b)
              have HO3 : Hid (SrtB f2 mid b) := Lib.hid ((HSP.out.right hs4 hs6 hue).congr fun q q1 _ => HS2.out.out q (.inr q1))
              have HK3 := HK2
              clear HK2
              by_cases hue1 : mid < e
              · have du1 : decide (mid < e) = true := decide_eq_true hue1
                have du2 : decide (e < b) = false := decide_eq_false (by omega)
                have du4 : ¬ e < b := by omega
                clear hue
                go_wp2_with fail
                go_end0
                exact ⟨rfl, f2, (HSP.out.done ham2 hmb2 HS2.out HO2.out HS3.out HO3.out).1, (HSP.out.done ham2 hmb2 HS2.out HO2.out HS3.out HO3.out).2, HK3.out⟩
              · have du1 : decide (mid < e) = false := decide_eq_false hue1
                clear hue
                go_wp2_with fail
                go_end0
                exact ⟨rfl, f2, (HSP.out.done ham2 hmb2 HS2.out HO2.out HS3.out HO3.out).1, (HSP.out.done ham2 hmb2 HS2.out HO2.out HS3.out HO3.out).2, HK3.out⟩
          · have HS2 := Lib.hid (SameIn.refl f1 a mid)
            have HO2 := Lib.hid (HSP.out.left hs1 hs5 hle)
            have HK2 := HK1
            clear HK1
            obtain ⟨f2, hf2⟩ : ∃ f2, f1 = f2 := ⟨_, rfl⟩
            have HK2q : Hid (RowF w0 g n cap f2 _) := Lib.hid (by rw [← hf2]; exact HK2.out)
            have HS2q : Hid (SameIn f1 f2 a mid) := Lib.hid (by rw [← hf2]; exact HS2.out)
            have HO2q : Hid (SrtB f2 a mid) := Lib.hid (by rw [← hf2]; exact HO2.out)
            clear HK2 HS2 HO2 hf2
            have HK2 := HK2q
            have HS2 := HS2q
            have HO2 := HO2q
            clear HK2q HS2q HO2q
            by_cases hle1 : a < s
            · have dl1 : decide (a < s) = true := decide_eq_true hle1
              have dl2 : decide (s < mid) = false := decide_eq_false (by omega)
              have dl4 : ¬ s < mid := by omega
              clear hle
              by_cases hue : mid < e ∧ e < b
              · have du1 : decide (mid < e) = true := decide_eq_true hue.1
                have du2 : decide (e < b) = true := decide_eq_true hue.2
                have du3 := hue.1
                have du4 := hue.2
                have HCU := Lib.hid (HIH.out w0 g n cap mid e b f2 _ HK2.out hn hue.1 hue.2 hbn (by omega) (HSP.out.s3.congr fun q q1 _ => HS2.out.out q (.inr q1)) (HSP.out.s4.congr fun q q1 _ => HS2.out.out q (.inr (by omega))) (CrossB.mono HS2.out (.inl (Nat.le_refl _)) HSP.out.c2))
                clear hue
                go_wp2_with fail
                refine HCU.out.mono ?_
                rintro e' w7 ⟨rfl, f3, hsa, hso, h7⟩
                have HS3 := Lib.hid hsa
                have HO3 := Lib.hid hso
                have HK3 := Lib.hid h7
                clear hsa hso h7 HCU HK2
                go_wp2_with fail
                go_end0
                exact ⟨rfl, f3, (HSP.out.done ham2 hmb2 HS2.out HO2.out HS3.out HO3.out).1, (HSP.out.done ham2 hmb2 HS2.out HO2.out HS3.out HO3.out).2, HK3.out⟩
              · have HS3 := Lib.hid (SameIn.refl f2 mid b)
                have HO3 : Hid (SrtB f2 mid b) := Lib.hid ((HSP.out.right hs4 hs6 hue).congr fun q q1 _ => HS2.out.out q (.inr q1))
                have HK3 := HK2
                clear HK2
                by_cases hue1 : mid < e
                · have du1 : decide (mid < e) = true := decide_eq_true hue1
                  have du2 : decide (e < b) = false := decide_eq_false (by omega)
                  have du4 : ¬ e < b := by omega
                  clear hue
                  go_wp2_with fail
                  go_end0
                  exact ⟨rfl, f2, (HSP.out.done ham2 hmb2 HS2.out HO2.out HS3.out HO3.out).1, (HSP.out.done ham2 hmb2 HS2.out HO2.out HS3.out HO3.out).2, HK3.out⟩
                · have du1 : decide (mid < e) = false := decide_eq_false hue1
                  clear hue
                  go_wp2_with fail
                  go_end0
                  exact ⟨rfl, f2, (HSP.out.done ham2 hmb2 HS2.out HO2.out HS3.out HO3.out).1, (HSP.out.done ham2 hmb2 HS2.out HO2.out HS3.out HO3.out).2, HK3.out⟩
            · have dl1 : decide (a < s) = false := decide_eq_false hle1
              clear hle
              by_cases hue : mid < e ∧ e < b
              · have du1 : decide (mid < e) = true := decide_eq_true hue.1
                have du2 : decide (e < b) = true := decide_eq_true hue.2
                have du3 := hue.1
                have du4 := hue.2
                have HCU := Lib.hid (HIH.out w0 g n cap mid e b f2 _ HK2.out hn hue.1 hue.2 hbn (by omega) (HSP.out.s3.congr fun q q1 _ => HS2.out.out q (.inr q1)) (HSP.out.s4.congr fun q q1 _ => HS2.out.out q (.inr (by omega))) (CrossB.mono HS2.out (.inl (Nat.le_refl _)) HSP.out.c2))
                clear hue
                go_wp2_with fail
                refine HCU.out.mono ?_
                rintro e' w7 ⟨rfl, f3, hsa, hso, h7⟩
                have HS3 := Lib.hid hsa
                have HO3 := Lib.hid hso
                have HK3 := Lib.hid h7
                clear hsa hso h7 HCU HK2
                go_wp2_with fail
                go_end0
                exact ⟨rfl, f3, (HSP.out.done ham2 hmb2 HS2.out HO2.out HS3.out HO3.out).1, (HSP.out.done ham2 hmb2 HS2.out HO2.out HS3.out HO3.out).2, HK3.out⟩
              · have HS3 := Lib.hid (SameIn.refl f2 mid b)
                have HO3 : Hid (SrtB f2 mid b) := Lib.hid ((HSP.out.right hs4 hs6 hue).congr fun q q1 _ => HS2.out.out q (.inr q1))
                have HK3 := HK2
                clear HK2
                by_cases hue1 : mid < e
                · have du1 : decide (mid < e) = true := decide_eq_true hue1
                  have du2 : decide (e < b) = false := decide_eq_false (by omega)
                  have du4 : ¬ e < b := by omega
                  clear hue
                  go_wp2_with fail
                  go_end0
                  exact ⟨rfl, f2, (HSP.out.done ham2 hmb2 HS2.out HO2.out HS3.out HO3.out).1, (HSP.out.done ham2 hmb2 HS2.out HO2.out HS3.out HO3.out).2, HK3.out⟩
                · have du1 : decide (mid < e) = false := decide_eq_false hue1
                  clear hue
                  go_wp2_with fail
                  go_end0
                  exact ⟨rfl, f2, (HSP.out.done ham2 hmb2 HS2.out HO2.out HS3.out HO3.out).1, (HSP.out.done ham2 hmb2 HS2.out HO2.out HS3.out HO3.out).2, HK3.out⟩

theorem sym_ih : ∀ N, SymIH N
  | 0 => fun w0 g n cap a m b f w _ _ h1 h2 _ h3 => by omega
  | N + 1 => fun w0 g n cap a m b f w hr hn ham hmb hbn hN h1 h2 hc => by
    by_cases e1 : m = a + 1
    · exact sym_left w0 g n cap a m b f w hr hn ham hmb hbn h1 h2 hc e1
    by_cases e2 : b = m + 1
    · exact sym_right w0 g n cap a m b f w hr hn ham hmb hbn h1 h2 hc e1 e2
    by_cases e3 : (a + b) / 2 < m
    · exact sym_restB w0 g n cap a m b f w hr hn ham hmb hbn h1 h2 hc e1 e2 N hN (sym_ih N) _ rfl e3
    · exact sym_restS w0 g n cap a m b f w hr hn ham hmb hbn h1 h2 hc e1 e2 N hN (sym_ih N) _ rfl e3
theorem symMerge_any (w0 : World) (g n cap a m b : Nat) (f : JF) (w : World) (hr : RowF w0 g n cap f w) (hn : n ≤ 1000) (ham : a < m) (hmb : m < b) (hbn : b ≤ n) (h1 : SrtB f a m) (h2 : SrtB f m b) (hc : CrossB f a m b) : Calls Try.prog 61 #[.slice (some ⟨g, 0, none⟩) n cap, .int .i64 a, .int .i64 m, .int .i64 b, .func (.func 27) #[] #[]] w (fun e w' => e = .returned (.tuple #[]) ∧ ∃ f', SameIn f f' a b ∧ SrtB f' a b ∧ RowF w0 g n cap f' w') := sym_ih (b - a) w0 g n cap a m b f w hr hn ham hmb hbn (Nat.le_refl _) h1 h2 hc

end Go.Proofs.Ytimgdlddfnglaaa
