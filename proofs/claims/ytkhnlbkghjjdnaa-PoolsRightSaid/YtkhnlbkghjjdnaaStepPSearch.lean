/- sort.Search, the program's stepAt (which step tells of a time), and At: what they answer. -/
import Derived.Test.YtkhnlbkghjjdnaaStepPRight
import Derived.RegionTactic
import Derived.Shelf.Abstract
namespace Go.Proofs.Ytkhnlbkghjjdnaa
open Go.RowKit

set_option maxHeartbeats 4000000 in
set_option maxRecDepth 100000 in
/-- sort.Search over a question whose answers turn from no to yes at K -/
theorem sortSearch_any (g : Nat) (cb : Array Value) (n K : Nat) (p : Nat → Bool) (w : World) (eg : ∀ args w, (callFunc g args).run Try.prog w = .ok (.enter g args) w) (hn : n ≤ 4000) (hK : K ≤ n)
    (hf : ∀ (m i : Nat), i < n → Calls Try.prog g (#[.int .i64 i] ++ cb) (w.drewN m) fun e w' => e = .returned (.bool (p i)) ∧ ∃ q, w' = (w.drewN m).drewN q)
    (h0 : ∀ i, i < K → p i = false) (h1 : ∀ i, K ≤ i → i < n → p i = true) :
    Calls Try.prog 58 #[.int .i64 n, .func (.func g) #[] cb] w fun e w' => e = .returned (.int .i64 K) ∧ ∃ q, w' = w.drewN q := by
  have HF := Lib.hid hf
  have H0 := Lib.hid h0
  have H1 := Lib.hid h1
  clear hf h0 h1
  go_enter Try.func58, Try.ntmps58
  go_wp2
  go_loopg [5, 6] n (fun kx s5 s6 wr => ∃ (lo hi q : Nat), s5 = .int .i64 lo ∧ s6 = .int .i64 hi ∧ lo ≤ K ∧ K ≤ hi ∧ hi ≤ n ∧ hi - lo ≤ kx ∧ wr = w.drewN q)
  case atStart => exact ⟨0, n, 0, rfl, rfl, Nat.zero_le _, hK, Nat.le_refl _, by omega, rfl⟩
  case round =>
    obtain ⟨lo, hi, q, rfl, rfl, hlo, hhi, hin, hg, rfl⟩ := hrel
    by_cases hlt : lo < hi
    · have hc := HF.out q ((lo + hi) / 2) (by omega)
      rw [show (((lo + hi) / 2 : Nat) : Int) = ((lo : Int) + (hi : Int)) / 2 by omega] at hc
      by_cases hm : (lo + hi) / 2 < K
      · rw [H0.out _ hm] at hc
        have HC := Lib.hid hc
        clear hc
        go_wp2_with fail
        refine HC.out.mono ?_
        rintro e w' ⟨rfl, nq, rfl⟩
        go_wp2
        go_roundg (hi - ((lo + hi) / 2 + 1))
        case measure => omega
        case rel => exact ⟨(lo + hi) / 2 + 1, hi, q + nq, by rw [show ((lo : Int) + (hi : Int)) / 2 + 1 = (((lo + hi) / 2 + 1 : Nat) : Int) by omega], rfl, by omega, hhi, hin, Nat.le_refl _, rfl⟩
      · rw [H1.out _ (by omega) (by omega)] at hc
        have HC := Lib.hid hc
        clear hc
        go_wp2_with fail
        refine HC.out.mono ?_
        rintro e w' ⟨rfl, nq, rfl⟩
        go_wp2
        go_roundg ((lo + hi) / 2 - lo)
        case measure => omega
        case rel => exact ⟨lo, (lo + hi) / 2, q + nq, rfl, by rw [show ((lo : Int) + (hi : Int)) / 2 = (((lo + hi) / 2 : Nat) : Int) by omega], hlo, by omega, by omega, Nat.le_refl _, rfl⟩
    · obtain rfl : hi = lo := by omega
      obtain rfl : hi = K := by omega
      go_wp2
      go_ret
      exact ⟨rfl, q, rfl⟩

set_option maxHeartbeats 2000000 in
theorem stepAtQ_any (ba bx b off n c : Nat) (p : List (Int × Int)) (t : Int) (i : Nat) (w : World) (_ : n ≤ 4000) (hi : i < n)
    (ha : w.cell? ⟨ba, 0, none⟩ = some (.slice (some ⟨b, off, none⟩) n c)) (hx : w.cell? ⟨bx, 0, none⟩ = some (.int .i64 t)) (hc : w.cell? ⟨b, off + i * 2, none⟩ = some (.int .i64 (p.getD i (0, 0)).1)) :
    Calls Try.prog 59 (#[.int .i64 i] ++ #[.pointer (some ⟨ba, 0, none⟩), .pointer (some ⟨bx, 0, none⟩)]) w fun e w' => e = .returned (.bool (decide (t < (p.getD i (0, 0)).1))) ∧ ∃ q, w' = w.drewN q := by
  generalize (p.getD i (0, 0)).1 = y at *
  have hiz : (i : Int) < (n : Int) := by omega
  go_enter Try.func59, Try.ntmps59
  go_wp2
  go_region
  all_goals go_wp2
  all_goals go_ret
  all_goals exact ⟨by first | rfl | simp, 1, rfl⟩

/-- a new box's cell; a cell under a block laid behind -/
theorem cell_new1 (W : World) (v : Value) (t : TypeId) : (W.alloc (.cells #[v] t)).cell? ⟨W.heap.size, 0, none⟩ = some v := by
  rw [World.cell?_alloc_at _ _ _ _ rfl]; rfl

set_option maxHeartbeats 2000000 in
set_option maxRecDepth 100000 in
theorem stepAt_any (A : Option Addr) (n c : Nat) (p : List (Int × Int)) (t : Int) (w : World) (hr : RS w w.heap.size A n p) (hn : n ≤ 4000) (hu : Up 0 p) :
    Calls Try.prog 48 #[.slice A n c, .int .i64 t] w fun e w' => e = .returned (.int .i64 ((pos p t : Int) - 1)) ∧ Below w.heap.size w w' := by
  obtain ⟨W0, hW0⟩ : ∃ W0, W0 = (w.alloc (.cells #[.slice A n c] 26)).alloc (.cells #[.int .i64 t] 2) := ⟨_, rfl⟩
  have hB0 : Below w.heap.size w W0 := by rw [hW0]; exact bel_alloc (bel_alloc (Below.refl _ _) _) _
  have ca : W0.cell? ⟨w.heap.size, 0, none⟩ = some (.slice A n c) := by rw [hW0, World.cell?_alloc_past (w := w.alloc _) _ _ _ (by simp)]; exact cell_new1 w _ _
  have cx : W0.cell? ⟨w.heap.size + 1, 0, none⟩ = some (.int .i64 t) := by rw [hW0]; have := cell_new1 (w.alloc (.cells #[.slice A n c] 26)) (.int .i64 t) 2; rwa [World.size_alloc] at this
  have hr0 := hr.below hB0
  have eg : ∀ args w, (callFunc 59 args).run Try.prog w = .ok (.enter 59 args) w := Go.Proofs.enters_of Try.func59 (by kernel_rfl) rfl
  have hlen := hr.1
  have hple := pos_le p t
  have hS := sortSearch_any 59 #[.pointer (some ⟨w.heap.size, 0, none⟩), .pointer (some ⟨w.heap.size + 1, 0, none⟩)] n (pos p t) (fun i => decide (t < (p.getD i (0, 0)).1)) W0 eg hn (by omega)
    (fun m i hi => by
      obtain ⟨b, off, rfl, _, h1, _⟩ := hr0.cells hi
      exact stepAtQ_any w.heap.size (w.heap.size + 1) b off n c p t i _ hn hi ca cx h1)
    (fun i hi => decide_eq_false (by have := pos_lt p t i hi; omega)) (fun i hi hin => decide_eq_true (pos_ge hu t i hi (by omega)))
  have HB0 := Lib.hid hB0
  have HP : Hid (pos p t ≤ 4000) := Lib.hid (by omega)
  clear ca cx hr0 eg hlen hple hr hu hB0
  obtain ⟨K, hK⟩ : ∃ K, pos p t = K := ⟨_, rfl⟩
  rw [hK] at hS HP ⊢
  clear hK
  have hK2 := HP.out
  go_enter Try.func48, Try.ntmps48
  go_wp2_with (go_at_call 58; rw [← hW0]; refine hS.mono ?_; rintro e w' ⟨rfl, q, rfl⟩)
  go_ret
  refine ⟨by first | rfl | go_num, ?_⟩
  rw [← hW0]
  exact HB0.out.trans ((bel_drew _ q).mono HB0.out.size)

end Go.Proofs.Ytkhnlbkghjjdnaa
