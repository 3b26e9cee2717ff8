/- The reference's ReadSpec of layer 8 (bailiwickref08): what it answers of any bytes. -/
import Derived.Test.YtlpogkcfjbabaaaMg26
import Derived.Test.YtlpogkcfjbabaaaMg03
namespace Go.Proofs.Ytlpogkcfjbabaaa
open Go.RowKit

theorem refSpec_ok {A : Option Addr} {n c B : Nat} {bs t : Bs} {s : Sp} {w : World} (h : BAsk w B A n c bs) (hB : B ≤ w.heap.size) (hr : specR bs = .ok (s, t)) :
    Calls Try.prog 54 #[.slice A n c] w (SpOk s t B w) := by
  have := refSpec_any A n c bs B w h hB
  rw [hr] at this
  exact this
theorem refSpec_err {A : Option Addr} {n c B er : Nat} {bs : Bs} {w : World} (h : BAsk w B A n c bs) (hB : B ≤ w.heap.size) (hr : specR bs = .error er) :
    Calls Try.prog 54 #[.slice A n c] w (SpErr er w) := by
  have := refSpec_any A n c bs B w h hB
  rw [hr] at this
  exact this

set_option maxRecDepth 100000 in
set_option maxHeartbeats 2000000 in
theorem refReadSpec_big (A : Option Addr) (n c : Nat) (w : World) (hn : n ≤ maxLen) (hbig : 65536 < n) :
    Calls Try.prog 31 #[.slice A n c] w (SEPost sp0 4 w) := by
  unfold maxLen at hn
  have hd : decide ((65536 : Int) < (n : Int)) = true := by simp; omega
  clear hbig
  go_enter Try.func31, Try.ntmps31
  go_wp2
  refine bodyPost_ret (v := .tuple #[spV sp0, .int .i64 4]) (by simp [results, Try.results31, go_sem, spV, sp0]) rfl ⟨rfl, ?_⟩
  exact (Below.refl _ _).alloc (Nat.le_refl _) _

set_option maxRecDepth 100000 in
set_option maxHeartbeats 2000000 in
theorem refReadSpec_err (A : Option Addr) (n c er : Nat) (bs : Bs) (B : Nat) (w : World) (h : BAsk w B A n c bs) (hB : B ≤ w.heap.size) (hle : n ≤ 65536) (hr : specR bs = .error er) :
    Calls Try.prog 31 #[.slice A n c] w (SEPost sp0 er w) := by
  have hd : decide ((65536 : Int) < (n : Int)) = false := by simp; omega
  have her : Hid (er ≠ 0) := Lib.hid (nn_spec _ _ hr)
  have herd : ((er : Int) == 0) = false := by simp; exact her.out
  obtain ⟨W, hW⟩ : ∃ W, W = w.alloc (.cells #[.int .i64 0, .int .i64 0, .int .i64 0, .string ⟨#[]⟩, .bool false, .int .i64 0, .int .i64 0] 23) := ⟨_, rfl⟩
  have BX : Hid (BoxS W w.heap.size sp0) := Lib.hid (by rw [hW]; exact box_new w sp0)
  have BW : Hid (Below w.heap.size w W) := Lib.hid (by rw [hW]; exact (Below.refl _ _).alloc (Nat.le_refl _) _)
  have H : Hid (BAsk W B A n c bs) := Lib.hid (h.below (BW.out.mono hB))
  have HBW : Hid (B ≤ W.heap.size) := Lib.hid (Nat.le_trans hB BW.out.size)
  have HR := Lib.hid hr
  clear h hB hr her
  go_enter Try.func31, Try.ntmps31
  go_wp2_with fail
  rw [← hW]
  refine (refSpec_err H.out HBW.out HR.out).mono ?_
  rintro e w1 ⟨rfl, hb1⟩
  have HB1 := Lib.hid (BW.out.trans (hb1.mono BW.out.size))
  have hx2 : (w1.alloc (.cells #[.int .i64 0, .int .i64 0, .int .i64 0, .string ⟨#[]⟩, .bool false, .int .i64 0, .int .i64 0] 23)).heap[w.heap.size]? = some (.cells #[.int .i64 0, .int .i64 0, .int .i64 0, .string ⟨#[]⟩, .bool false, .int .i64 0, .int .i64 0] 23 (0, 0)) := ((BX.out.next hb1).alloc _).at'
  obtain ⟨f, a0, a1, a2, a3, a4, a5, a6⟩ := cells7 hx2
  have HB2 : Hid (Below w.heap.size w (w1.alloc (.cells #[.int .i64 0, .int .i64 0, .int .i64 0, .string ⟨#[]⟩, .bool false, .int .i64 0, .int .i64 0] 23))) := Lib.hid (HB1.out.alloc HB1.out.size _)
  clear hb1 hW hx2
  go_wp2
  refine bodyPost_ret (v := .tuple #[spV sp0, .int .i64 er]) (by simp [results, Try.results31, go_sem, spV, sp0, a0, a1, a2, a3, a4, a5, a6]) rfl ⟨rfl, ?_⟩
  exact (((((((HB2.out.setCell (Nat.le_refl _) _).setCell (Nat.le_refl _) _).setCell (Nat.le_refl _) _).setCell (Nat.le_refl _) _).setCell (Nat.le_refl _) _).setCell (Nat.le_refl _) _).setCell (Nat.le_refl _) _)

set_option maxRecDepth 100000 in
set_option maxHeartbeats 2000000 in
theorem refReadSpec_ok (A : Option Addr) (n c : Nat) (bs : Bs) (B : Nat) (s : Sp) (w : World) (h : BAsk w B A n c bs) (hB : B ≤ w.heap.size) (hle : n ≤ 65536) (hr : specR bs = .ok (s, [])) :
    Calls Try.prog 31 #[.slice A n c] w (SEPost s 0 w) := by
  have hd : decide ((65536 : Int) < (n : Int)) = false := by simp; omega
  obtain ⟨x0, x1, x2, x3, x4, x5, x6⟩ := s
  obtain ⟨W, hW⟩ : ∃ W, W = w.alloc (.cells #[.int .i64 0, .int .i64 0, .int .i64 0, .string ⟨#[]⟩, .bool false, .int .i64 0, .int .i64 0] 23) := ⟨_, rfl⟩
  have BX : Hid (BoxS W w.heap.size sp0) := Lib.hid (by rw [hW]; exact box_new w sp0)
  have BW : Hid (Below w.heap.size w W) := Lib.hid (by rw [hW]; exact (Below.refl _ _).alloc (Nat.le_refl _) _)
  have H : Hid (BAsk W B A n c bs) := Lib.hid (h.below (BW.out.mono hB))
  have HBW : Hid (B ≤ W.heap.size) := Lib.hid (Nat.le_trans hB BW.out.size)
  have HR := Lib.hid hr
  clear h hB hr
  go_enter Try.func31, Try.ntmps31
  go_wp2_with fail
  rw [← hW]
  refine (refSpec_ok H.out HBW.out HR.out).mono ?_
  rintro e w1 ⟨⟨A1, c1, rfl, _⟩, hb1⟩
  unfold spV
  have HB1 := Lib.hid (BW.out.trans (hb1.mono BW.out.size))
  have hx2 : (w1.alloc (.cells #[.int .i64 x0, .int .i64 x1, .int .i64 x2, .string x3, .bool x4, .int .i64 x5, .int .i64 x6] 23)).heap[w.heap.size]? = some (.cells #[.int .i64 0, .int .i64 0, .int .i64 0, .string ⟨#[]⟩, .bool false, .int .i64 0, .int .i64 0] 23 (0, 0)) := ((BX.out.next hb1).alloc _).at'
  obtain ⟨f, a0, a1, a2, a3, a4, a5, a6⟩ := cells7 hx2
  have HB2 : Hid (Below w.heap.size w (w1.alloc (.cells #[.int .i64 x0, .int .i64 x1, .int .i64 x2, .string x3, .bool x4, .int .i64 x5, .int .i64 x6] 23))) := Lib.hid (HB1.out.alloc HB1.out.size _)
  clear hb1 hW hx2
  go_wp2
  refine bodyPost_ret (v := .tuple #[.agg #[.int .i64 x0, .int .i64 x1, .int .i64 x2, .string x3, .bool x4, .int .i64 x5, .int .i64 x6], .int .i64 0]) (by simp [results, Try.results31, go_sem, a0, a1, a2, a3, a4, a5, a6]) rfl ⟨rfl, ?_⟩
  exact (((((((HB2.out.setCell (Nat.le_refl _) _).setCell (Nat.le_refl _) _).setCell (Nat.le_refl _) _).setCell (Nat.le_refl _) _).setCell (Nat.le_refl _) _).setCell (Nat.le_refl _) _).setCell (Nat.le_refl _) _)

set_option maxRecDepth 100000 in
set_option maxHeartbeats 2000000 in
theorem refReadSpec_more (A : Option Addr) (n c : Nat) (bs : Bs) (B : Nat) (s : Sp) (y : UInt8) (t : Bs) (w : World) (h : BAsk w B A n c bs) (hB : B ≤ w.heap.size) (hle : n ≤ 65536) (hr : specR bs = .ok (s, y :: t)) :
    Calls Try.prog 31 #[.slice A n c] w (SEPost sp0 3 w) := by
  have hd : decide ((65536 : Int) < (n : Int)) = false := by simp; omega
  obtain ⟨x0, x1, x2, x3, x4, x5, x6⟩ := s
  obtain ⟨W, hW⟩ : ∃ W, W = w.alloc (.cells #[.int .i64 0, .int .i64 0, .int .i64 0, .string ⟨#[]⟩, .bool false, .int .i64 0, .int .i64 0] 23) := ⟨_, rfl⟩
  have BX : Hid (BoxS W w.heap.size sp0) := Lib.hid (by rw [hW]; exact box_new w sp0)
  have BW : Hid (Below w.heap.size w W) := Lib.hid (by rw [hW]; exact (Below.refl _ _).alloc (Nat.le_refl _) _)
  have H : Hid (BAsk W B A n c bs) := Lib.hid (h.below (BW.out.mono hB))
  have HBW : Hid (B ≤ W.heap.size) := Lib.hid (Nat.le_trans hB BW.out.size)
  have HR := Lib.hid hr
  clear h hB hr
  go_enter Try.func31, Try.ntmps31
  go_wp2_with fail
  rw [← hW]
  refine (refSpec_ok H.out HBW.out HR.out).mono ?_
  rintro e w1 ⟨⟨A1, c1, rfl, _⟩, hb1⟩
  unfold spV
  have HB1 := Lib.hid (BW.out.trans (hb1.mono BW.out.size))
  have hx2 : (w1.alloc (.cells #[.int .i64 x0, .int .i64 x1, .int .i64 x2, .string x3, .bool x4, .int .i64 x5, .int .i64 x6] 23)).heap[w.heap.size]? = some (.cells #[.int .i64 0, .int .i64 0, .int .i64 0, .string ⟨#[]⟩, .bool false, .int .i64 0, .int .i64 0] 23 (0, 0)) := ((BX.out.next hb1).alloc _).at'
  obtain ⟨f, a0, a1, a2, a3, a4, a5, a6⟩ := cells7 hx2
  have HB2 : Hid (Below w.heap.size w (w1.alloc (.cells #[.int .i64 x0, .int .i64 x1, .int .i64 x2, .string x3, .bool x4, .int .i64 x5, .int .i64 x6] 23))) := Lib.hid (HB1.out.alloc HB1.out.size _)
  clear hb1 hW hx2
  have hlen : (y :: t).length = t.length + 1 := rfl
  generalize (y :: t).length = m at *
  have hm : 0 < m := by omega
  clear hlen
  go_wp2
  refine bodyPost_ret (v := .tuple #[spV sp0, .int .i64 3]) (by simp [results, Try.results31, go_sem, spV, sp0, a0, a1, a2, a3, a4, a5, a6]) rfl ⟨rfl, ?_⟩
  exact (((((((HB2.out.setCell (Nat.le_refl _) _).setCell (Nat.le_refl _) _).setCell (Nat.le_refl _) _).setCell (Nat.le_refl _) _).setCell (Nat.le_refl _) _).setCell (Nat.le_refl _) _).setCell (Nat.le_refl _) _)

theorem refReadSpec_any (A : Option Addr) (n c : Nat) (bs : Bs) (B : Nat) (w : World) (h : BAsk w B A n c bs) (hB : B ≤ w.heap.size) :
    Calls Try.prog 31 #[.slice A n c] w (SEPost (spReadS bs).1 (spReadS bs).2 w) := by
  have hl := h.reads.len
  by_cases hbig : 65536 < n
  · rw [show spReadS bs = (sp0, 4) from by unfold spReadS wholeOf; rw [if_pos (by rw [hl]; exact hbig)]]
    exact refReadSpec_big A n c w h.few hbig
  · cases hr : specR bs with
    | error er =>
      rw [show spReadS bs = (sp0, (er : Int)) from whole_err (by rw [hl]; omega) hr]
      exact refReadSpec_err A n c er bs B w h hB (by omega) hr
    | ok r =>
      obtain ⟨s, t⟩ := r
      cases t with
      | nil =>
        rw [show spReadS bs = (s, 0) from whole_at (by rw [hl]; omega) hr]
        exact refReadSpec_ok A n c bs B s w h hB (by omega) hr
      | cons y t =>
        rw [show spReadS bs = (sp0, 3) from by unfold spReadS wholeOf; rw [if_neg (by rw [hl]; omega), hr]]
        exact refReadSpec_more A n c bs B s y t w h hB (by omega) hr

end Go.Proofs.Ytlpogkcfjbabaaa
