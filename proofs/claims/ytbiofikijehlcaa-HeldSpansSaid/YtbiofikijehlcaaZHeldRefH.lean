/- The reference's Busy, Over of any list, and Times, of layer 10. Written by gen/gen_heldref8.py. -/
import Derived.Test.YtbiofikijehlcaaZHeldRefG
namespace Go.Proofs.Ytbiofikijehlcaa
open Go.RowKit

set_option maxRecDepth 100000 in
set_option maxHeartbeats 8000000 in
theorem refBusy_no (A : Option Addr) (n c : Nat) (l : Tb) (a b : Int) (w : World) (hl : TAsk w A n c l) (h1 : rightT l = false) :
    Calls Try.prog 13 #[.slice A n c, .int .i64 a, .int .i64 b] w (fun e w' => (∃ A' c', e = .returned (.slice A' 0 c') ∧ RI w' w'.heap.size A' 0 []) ∧ Below w.heap.size w w') := by
  have HT := Lib.hid hl
  have R1 := Lib.hid h1
  clear hl h1
  have HB := Lib.hid (Below.refl w.heap.size w)
  go_enter Try.func13, Try.ntmps13
  go_wp2_with fail
  refine (refRightT_b HT.out.reads HT.out.few R1.out).mono ?_
  rintro e w1 ⟨rfl, hb⟩
  have HBq := Lib.hid (HB.out.trans (hb.mono HB.out.size))
  clear HB
  have HB := HBq
  clear HBq
  have HTq := Lib.hid (HT.out.next hb)
  clear HT
  have HT := HTq
  clear HTq
  clear hb
  go_wp2
  go_ret
  exact ⟨⟨_, _, rfl, RI.nil⟩, HB.out⟩
set_option maxRecDepth 100000 in
set_option maxHeartbeats 8000000 in
theorem refOver_no (A : Option Addr) (n c : Nat) (l : Tb) (now : Int) (w : World) (hl : TAsk w A n c l) (h1 : rightT l = false) :
    Calls Try.prog 10 #[.slice A n c, .int .i64 now] w (TTPost l [] w) := by
  have HT := Lib.hid hl
  have R1 := Lib.hid h1
  clear hl h1
  have HB := Lib.hid (Below.refl w.heap.size w)
  go_enter Try.func10, Try.ntmps10
  go_wp2_with fail
  refine (refRightT_b HT.out.reads HT.out.few R1.out).mono ?_
  rintro e w1 ⟨rfl, hb⟩
  have HBq := Lib.hid (HB.out.trans (hb.mono HB.out.size))
  clear HB
  have HB := HBq
  clear HBq
  have HTq := Lib.hid (HT.out.next hb)
  clear HT
  have HT := HTq
  clear HTq
  clear hb
  go_wp2
  go_ret2
  have hln := HT.out.reads.len
  subst hln
  exact ⟨⟨_, _, _, _, rfl, HT.out.reads, RT.nil, ⟨HT.out.nil, HT.out.cap⟩, fun _ => rfl, Nat.le_refl _⟩, HB.out⟩
/-- numbers, read from whatever memory -/
def NumsPost (xs : List Int) (w : World) (e : Ending) (w' : World) : Prop := (∃ A' c', e = .returned (.slice A' xs.length c') ∧ RI w' w'.heap.size A' xs.length xs) ∧ Below w.heap.size w w'
theorem refBusy_any (A : Option Addr) (n c : Nat) (l : Tb) (a b : Int) (w : World) (hl : TAsk w A n c l) : Calls Try.prog 13 #[.slice A n c, .int .i64 a, .int .i64 b] w (NumsPost (busyT l a b) w) := by
  cases h : rightT l with
  | true => exact refBusy_yes A n c l a b w hl.reads hl.few h
  | false =>
    have e : busyT l a b = [] := by unfold busyT; rw [h]; rfl
    rw [e]
    exact refBusy_no A n c l a b w hl h
theorem refOver_any (A : Option Addr) (n c : Nat) (l : Tb) (now : Int) (w : World) (hl : TAsk w A n c l) : Calls Try.prog 10 #[.slice A n c, .int .i64 now] w (TTPost (restT l now) (goneT l now) w) := by
  cases h : rightT l with
  | true => exact refOver_yes A n c l now w hl.reads hl.few h
  | false =>
    have e1 : restT l now = l := by unfold restT; rw [h]; rfl
    have e2 : goneT l now = [] := by unfold goneT; rw [h]; rfl
    rw [e1, e2]
    exact refOver_no A n c l now w hl h

end Go.Proofs.Ytbiofikijehlcaa
