/- slices.Reverse of Go's library at this dump, by the library's contract: an owned row of numbers is turned round. -/
import Derived.Shelf.Slices.Reverse
import Derived.Lib.OwnBridge
import Derived.Test.YtokjinihdanhbaaNums
namespace Go.Proofs
open Go.Shelf
open Go.RowKit
def Try.revRen : Go.Shelf.Ren := ⟨fun | 112 => 31 | n => n, fun | 28 => 23 | 3 => 3 | 4 => 4 | 0 => 0 | n => n, fun n => n⟩
theorem Try.revLays : Go.Proofs.Lays.n112 Try.prog Try.revRen := {
  mixed := by kernel_rfl
  f112 := Try.func31.trans (congrArg some (by kernel_rfl))
  t0 := Try.underlying0
  a0 := Try.isAgg0
  z0 := Try.sizeOf0
  v0 := Try.zeroValue0
  t3 := Try.underlying3
  a3 := Try.isAgg3
  z3 := Try.sizeOf3
  v3 := Try.zeroValue3
  t4 := Try.underlying4
  a4 := Try.isAgg4
  z4 := Try.sizeOf4
  v4 := Try.zeroValue4
  t28 := Try.underlying23
  a28 := Try.isAgg23
  z28 := Try.sizeOf23
  v28 := Try.zeroValue23 }
end Go.Proofs
namespace Go.Proofs.Ytokjinihdanhbaa
open Go.RowKit

/-- an owned row of numbers: its cells, told as a list -/
theorem on_own {t : TypeId} {w wr : World} {v : Value} {xs : List Int} (h : ON EI 1 t w v xs wr) : wr.ownsRow w.heap.size t 1 v xs.length (xs.map (Value.int .i64)) ∧ Below w.heap.size w wr := by
  obtain ⟨fl, h1, h2, h3⟩ := h
  have e : fl = xs.map (Value.int .i64) := by
    apply List.ext_getElem?
    intro j
    by_cases hj : j < xs.length
    · have hx : xs[j]? = some xs[j] := List.getElem?_eq_getElem hj
      have h4 : (fl.drop (j * 1)).take 1 = [.int .i64 xs[j]] := h3 j _ hx
      have h5 : ((fl.drop (j * 1)).take 1)[0]? = some (.int .i64 xs[j]) := by rw [h4]; rfl
      rw [List.getElem?_take_of_lt (by omega), List.getElem?_drop] at h5
      rw [List.getElem?_map, hx]
      simpa using h5
    · have h6 := h1.1
      rw [List.getElem?_eq_none (by omega), List.getElem?_eq_none (by simp; omega)]
  subst e
  exact ⟨h1, h2⟩
theorem own_on {t : TypeId} {w wr : World} {v : Value} {xs : List Int} (h : wr.ownsRow w.heap.size t 1 v xs.length (xs.map (Value.int .i64))) (hb : Below w.heap.size w wr) : ON EI 1 t w v xs wr :=
  ⟨_, h, hb, fun j x hx => by
    show _ = _
    have hj := (List.getElem?_eq_some_iff.1 hx).1
    rw [← List.map_drop, ← List.map_take]
    have : (xs.drop (j * 1)).take 1 = [x] := by
      rw [Nat.mul_one, List.drop_eq_getElem_cons hj]
      have hxj := (List.getElem?_eq_some_iff.1 hx).2
      rw [hxj]; rfl
    rw [this]; rfl⟩
theorem reverse_any {w wr : World} {v : Value} {xs : List Int} (h : ON EI 1 3 w v xs wr) (hpos : 0 < xs.length) :
    Calls Try.prog 31 #[v] wr fun e w' => e = .returned (.tuple #[]) ∧ ON EI 1 3 w v xs.reverse w' := by
  obtain ⟨h1, h2⟩ := on_own h
  have hv : v ≠ .slice none 0 0 := by
    obtain ⟨A, c, rfl, _, _⟩ := h.form
    intro e
    injection e with _ e2 _
    omega
  obtain ⟨g, cap, rfl, hbg, hgl, hn, hm, hl, hH⟩ := Lib.holds_of_ownsRow h1 hv
  have hr : Calls Try.prog 31 #[.slice (some ⟨g, 0, none⟩) xs.length cap] wr _ := Any.slices_Reverse_int Try.revLays g 0 cap xs wr hH (by unfold maxLen at hm; omega)
  refine hr.mono ?_
  rintro e w' ⟨rfl, q, rfl⟩
  refine ⟨rfl, own_on ?_ (Lib.below_putRow h2 hbg)⟩
  have h3 := Lib.ownsRow_putRow (q := q) (ys := xs.reverse) h1 (by simp) (Nat.le_refl _)
  rw [List.take_of_length_le (by simp)] at h3
  rw [List.length_reverse]
  exact h3

end Go.Proofs.Ytokjinihdanhbaa
