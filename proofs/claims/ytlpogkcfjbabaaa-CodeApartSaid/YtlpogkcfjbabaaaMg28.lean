/- The reference's ReadSet of layer 8 (bailiwickref08): what it answers of any bytes. -/
import Derived.Test.YtlpogkcfjbabaaaMg25
import Derived.Test.YtlpogkcfjbabaaaMg03
namespace Go.Proofs.Ytlpogkcfjbabaaa
open Go.RowKit

theorem refSet_ok {A : Option Addr} {n c B : Nat} {bs t : Bs} {l : List Int} {w : World} (h : BAsk w B A n c bs) (hB : B ≤ w.heap.size) (hr : setR bs = .ok (l, t)) :
    Calls Try.prog 55 #[.slice A n c] w (SOk l t B w) := by
  have := refSet_any A n c bs B w h hB
  rw [hr] at this
  exact this
theorem refSet_err {A : Option Addr} {n c B er : Nat} {bs : Bs} {w : World} (h : BAsk w B A n c bs) (hB : B ≤ w.heap.size) (hr : setR bs = .error er) :
    Calls Try.prog 55 #[.slice A n c] w (SErr er w) := by
  have := refSet_any A n c bs B w h hB
  rw [hr] at this
  exact this

set_option maxRecDepth 100000 in
set_option maxHeartbeats 2000000 in
theorem refReadSet_any (A : Option Addr) (n c : Nat) (bs : Bs) (B : Nat) (w : World) (h : BAsk w B A n c bs) (hB : B ≤ w.heap.size) :
    Calls Try.prog 32 #[.slice A n c] w (IEPost (rdSet bs).1 (rdSet bs).2 w) := by
  have H := Lib.hid h
  have HBW := Lib.hid hB
  have HL := Lib.hid h.reads.len
  have hn := h.few
  unfold maxLen at hn
  clear h hB
  by_cases hbig : 65536 < n
  · have e0 : rdSet bs = ([], 4) := by unfold rdSet wholeOf; rw [if_pos (by rw [HL.out]; exact hbig)]
    rw [e0]
    have hd : decide ((65536 : Int) < (n : Int)) = true := by simp; omega
    clear hbig e0
    go_enter Try.func32, Try.ntmps32
    go_wp2
    go_ret2
    exact iepost_nil (Below.refl _ _)
  · have hd : decide ((65536 : Int) < (n : Int)) = false := by simp; omega
    cases hr : setR bs with
    | error er =>
      have e0 : rdSet bs = ([], (er : Int)) := whole_err (by rw [HL.out]; omega) hr
      rw [e0]
      have HR := Lib.hid hr
      have her : Hid (er ≠ 0) := Lib.hid (nn_set _ _ hr)
      have herd : ((er : Int) == 0) = false := by simp; exact her.out
      clear hr hbig e0
      go_enter Try.func32, Try.ntmps32
      go_wp2_with fail
      refine (refSet_err H.out HBW.out HR.out).mono ?_
      rintro e w1 ⟨rfl, hb1⟩
      have HB1 := Lib.hid hb1
      clear hb1
      go_wp2
      go_ret2
      exact iepost_nil HB1.out
    | ok r =>
      obtain ⟨l, t⟩ := r
      have HR := Lib.hid hr
      cases t with
      | nil =>
        have e0 : rdSet bs = (l, 0) := whole_at (by rw [HL.out]; omega) hr
        rw [e0]
        clear hr hbig e0
        go_enter Try.func32, Try.ntmps32
        go_wp2_with fail
        refine (refSet_ok H.out HBW.out HR.out).mono ?_
        rintro e w1 ⟨⟨A1, c1, A2, c2, rfl, h1, h2, h3, _⟩, hb1⟩
        have HX := Lib.hid (And.intro h1 (And.intro h2 (And.intro h3 hb1)))
        clear h1 h2 h3 hb1
        go_wp2
        go_ret2
        exact ⟨⟨A1, c1, rfl, HX.out.1, HX.out.2.1, HX.out.2.2.1⟩, HX.out.2.2.2⟩
      | cons x t =>
        have e0 : rdSet bs = ([], 3) := by unfold rdSet wholeOf; rw [if_neg (by rw [HL.out]; omega), hr]
        rw [e0]
        clear hr hbig e0
        go_enter Try.func32, Try.ntmps32
        go_wp2_with fail
        refine (refSet_ok H.out HBW.out HR.out).mono ?_
        rintro e w1 ⟨⟨A1, c1, A2, c2, rfl, h1, h2, h3, _⟩, hb1⟩
        have HB1 := Lib.hid hb1
        have hlen : (x :: t).length = t.length + 1 := rfl
        generalize (x :: t).length = m at *
        have hm : 0 < m := by omega
        clear h1 h2 h3 hb1 hlen
        go_wp2
        go_ret2
        exact iepost_nil HB1.out

end Go.Proofs.Ytlpogkcfjbabaaa
