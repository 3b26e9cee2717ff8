/- slices.Reverse of Go's library at this dump, by the library's contract: an owned row of numbers is turned round. -/
import Derived.Shelf.Slices.Reverse
import Derived.Lib.OwnBridge
import Derived.Test.YtnlgnpdajblfnaaDoorNums
namespace Go.Proofs
open Go.Shelf
open Go.RowKit
def Tryd.revRen : Go.Shelf.Ren := ⟨fun | 112 => 29 | n => n, fun | 28 => 23 | 3 => 3 | 4 => 4 | 0 => 0 | n => n, fun n => n⟩
theorem Tryd.revLays : Go.Proofs.Lays.n112 Tryd.prog Tryd.revRen := {
  mixed := by kernel_rfl
  f112 := Tryd.func29.trans (congrArg some (by kernel_rfl))
  t0 := Tryd.underlying0
  a0 := Tryd.isAgg0
  z0 := Tryd.sizeOf0
  v0 := Tryd.zeroValue0
  t3 := Tryd.underlying3
  a3 := Tryd.isAgg3
  z3 := Tryd.sizeOf3
  v3 := Tryd.zeroValue3
  t4 := Tryd.underlying4
  a4 := Tryd.isAgg4
  z4 := Tryd.sizeOf4
  v4 := Tryd.zeroValue4
  t28 := Tryd.underlying23
  a28 := Tryd.isAgg23
  z28 := Tryd.sizeOf23
  v28 := Tryd.zeroValue23 }
end Go.Proofs
namespace Go.Proofs.YtnlgnpdajblfnaaDoor
open Go.RowKit

theorem reverse_any {w wr : World} {v : Value} {xs : List Int} (h : ON EI 1 3 w v xs wr) (hpos : 0 < xs.length) :
    Calls Tryd.prog 29 #[v] wr fun e w' => e = .returned (.tuple #[]) ∧ ON EI 1 3 w v xs.reverse w' := by
  obtain ⟨h1, h2⟩ := on_own h
  have hv : v ≠ .slice none 0 0 := by
    obtain ⟨A, c, rfl, _, _⟩ := h.form
    intro e
    injection e with _ e2 _
    omega
  obtain ⟨g, cap, rfl, hbg, hgl, hn, hm, hl, hH⟩ := Lib.holds_of_ownsRow h1 hv
  have hr : Calls Tryd.prog 29 #[.slice (some ⟨g, 0, none⟩) xs.length cap] wr _ := Any.slices_Reverse_int Tryd.revLays g 0 cap xs wr hH (by unfold maxLen at hm; omega)
  refine hr.mono ?_
  rintro e w' ⟨rfl, q, rfl⟩
  refine ⟨rfl, own_on ?_ (Lib.below_putRow h2 hbg)⟩
  have h3 := Lib.ownsRow_putRow (q := q) (ys := xs.reverse) h1 (by simp) (Nat.le_refl _)
  rw [List.take_of_length_le (by simp)] at h3
  rw [List.length_reverse]
  exact h3

end Go.Proofs.YtnlgnpdajblfnaaDoor
