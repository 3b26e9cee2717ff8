/- Words for memory: a slice of profiles that reads as a list of lists of pairs. -/
import Derived.Test.YtkhnlbkghjjdnaaStepFace
import Derived.Test.YtkhnlbkghjjdnaaReadN
import Derived.Test.YtkhnlbkghjjdnaaSetMem
namespace Go.Proofs.Ytkhnlbkghjjdnaa
open Go.RowKit

/-- a profile as an element: one cell, a slice of steps -/
def ES : Elem (List (Int × Int)) := fun w ok p vs => ∃ A m c, vs = [.slice A m c] ∧ RSo w ok A m p ∧ (A = none → c = 0) ∧ m ≤ c ∧ m ≤ maxLen
theorem es_steady : Steady ES := ⟨fun ⟨A, m, c, h1, h2, h3⟩ hk ho => ⟨A, m, c, h1, h2.keep hk ho, h3⟩⟩
/-- '.slice A n c' reads as the profiles ls, all below block B -/
def RSS (w : World) (B : Nat) (A : Option Addr) (n : Nat) (ls : List (List (Int × Int))) : Prop := RN ES 1 w (Lt B) A n ls
section
variable {w w' : World} {B n : Nat} {A : Option Addr} {ls : List (List (Int × Int))}
theorem RSS.len (h : RSS w B A n ls) : ls.length = n := h.1
theorem RSS.nil : RSS w B A 0 [] := RN.nil
theorem RSS.next (h : RSS w w.heap.size A n ls) (hb : Below w.heap.size w w') : RSS w' w'.heap.size A n ls := RN.next es_steady h hb
theorem RSS.below (h : RSS w B A n ls) (hb : Below B w w') : RSS w' B A n ls := RN.below es_steady h hb
theorem RSS.one (h : RSS w B A n ls) {k : Nat} (hk : k < n) : ∃ b off A' m c, A = some ⟨b, off, none⟩ ∧ b < B ∧ w.cell? ⟨b, off + k, none⟩ = some (.slice A' m c) ∧ RS w B A' m (ls.getD k []) ∧ (A' = none → c = 0) ∧ m ≤ c ∧ m ≤ maxLen := by
  have hl : k < ls.length := by rw [h.1]; exact hk
  obtain ⟨b, off, vs, e, hb, _, hc, A', m, c, rfl, hr, h3⟩ := RN.at h (List.getElem?_eq_getElem hl)
  have := hc 0 _ rfl
  rw [show k * 1 + 0 = k by omega] at this
  have hg : ls.getD k [] = ls[k] := by rw [List.getD, List.getElem?_eq_getElem hl]; rfl
  exact ⟨b, off, A', m, c, e, hb, this, by rw [hg]; exact hr.rs (fun _ h => h), h3⟩
/-- the number of steps of each -/
theorem RSS.steps (h : RSS w B A n ls) : ∀ p ∈ ls, p.length ≤ maxLen := by
  intro p hp
  obtain ⟨k, hk, rfl⟩ := List.getElem_of_mem hp
  obtain ⟨_, _, A', m, c, _, _, _, hr, _, _, hm⟩ := h.one (k := k) (by rw [← h.1]; exact hk)
  have hg : ls.getD k [] = ls[k] := by rw [List.getD, List.getElem?_eq_getElem hk]; rfl
  rw [hg] at hr
  rw [hr.1]; exact hm
end
theorem RI.one {w : World} {B n k : Nat} {A : Option Addr} {xs : List Int} (h : RI w B A n xs) (hk : k < n) : ∃ b off, A = some ⟨b, off, none⟩ ∧ b < B ∧ w.cell? ⟨b, off + k, none⟩ = some (.int .i64 (xs.getD k 0)) := by
  obtain ⟨b, off, e, hb, hc⟩ := h.2 (by omega)
  exact ⟨b, off, e, hb, hc k hk⟩

theorem RSS_lit1 {W : World} {A : Option Addr} {n c : Nat} {p : List (Int × Int)} (t : TypeId) (hr : RS W W.heap.size A n p) (hnil : A = none → c = 0) (hnc : n ≤ c) (hn : n ≤ maxLen) :
    RSS (W.alloc (.cells #[.slice A n c] t)) (W.alloc (.cells #[.slice A n c] t)).heap.size (some ⟨W.heap.size, 0, none⟩) 1 [p] := by
  have hb := Below.alloc (Below.refl W.heap.size W) (Nat.le_refl _) (.cells #[.slice A n c] t)
  refine ⟨rfl, fun _ => ⟨W.heap.size, 0, rfl, by show W.heap.size < _; simp, fun j x hx => ?_⟩⟩
  have hj : j = 0 := by
    have := (List.getElem?_eq_some_iff.1 hx).1
    simpa using this
  subst hj
  have hx' : p = x := by simpa using hx
  subst hx'
  refine ⟨[.slice A n c], rfl, fun i v hv => ?_, A, n, c, rfl, (hr.next hb).so, hnil, hnc, hn⟩
  have hi : i = 0 := by
    have := (List.getElem?_eq_some_iff.1 hv).1
    simpa using this
  subst hi
  have hv' : Value.slice A n c = v := by simpa using hv
  subst hv'
  rw [World.cell?_alloc_at _ _ _ _ rfl]
  rfl

/-- a number as an element -/
def EI : Elem Int := fun _ _ x vs => vs = [.int .i64 x]
theorem ei_steady : Steady EI := ⟨fun h _ _ => h⟩
theorem RN.ri {w : World} {B n : Nat} {A : Option Addr} {xs : List Int} (h : RN EI 1 w (Lt B) A n xs) : RI w B A n xs :=
  ⟨h.1, fun hn => by
    obtain ⟨b, off, e, hb, hc⟩ := h.2 hn
    refine ⟨b, off, e, hb, fun j hj => ?_⟩
    have hl : j < xs.length := by rw [h.1]; exact hj
    obtain ⟨vs, _, h2, h3⟩ := hc j xs[j] (List.getElem?_eq_getElem hl)
    have h3' : vs = [.int .i64 xs[j]] := h3
    subst h3'
    have := h2 0 _ rfl
    rw [show off + (j * 1 + 0) = off + j by omega] at this
    rw [List.getD, List.getElem?_eq_getElem hl]
    exact this⟩
/-- a copy of a profile, as an element that may be appended to an owned row -/
theorem es_of_copy {t : TypeId} {w wr wx : World} {v : Value} {xs : List (List (Int × Int))} {A : Option Addr} {m c : Nat} {p : List (Int × Int)} {e : TypeId}
    (hv : ∀ g, v.ownBlock = some g → g < wr.heap.size) (hown : wx.ownsRow wr.heap.size e 2 (.slice A m c) m (sCells p)) (hm : m ≤ maxLen) (_h : ON ES 1 t w v xs wr) :
    ES wx (fun b => b < wx.heap.size ∧ v.ownBlock ≠ some b) p [.slice A m c] := by
  have hr := RS.of_own hown
  refine ⟨A, m, c, rfl, ⟨hr.1, fun hn => ?_⟩, own_nil hown, own_cap hown, hm⟩
  obtain ⟨b, off, e1, hb, hc⟩ := hr.2 hn
  refine ⟨b, off, e1, ⟨hb, fun hg => ?_⟩, hc⟩
  have h1 := (hown.lt b (by rw [e1]; rfl)).1
  have h2 := hv b hg
  omega

end Go.Proofs.Ytkhnlbkghjjdnaa
