/- Words for memory: a slice of steps that reads as a list of pairs; no condition. -/
import Derived.Test.YtkhnlbkghjjdnaaWords
namespace Go.Proofs.Ytkhnlbkghjjdnaa
open Go.RowKit

/-- the slice value '.slice A n c' holds the steps p, below block B -/
def RS (w : World) (B : Nat) (A : Option Addr) (n : Nat) (p : List (Int × Int)) : Prop :=
  p.length = n ∧ (0 < n → ∃ b off, A = some ⟨b, off, none⟩ ∧ b < B ∧
    ∀ j, j < n → w.cell? ⟨b, off + j * 2, none⟩ = some (.int .i64 (p.getD j (0, 0)).1) ∧ w.cell? ⟨b, off + j * 2 + 1, none⟩ = some (.int .i64 (p.getD j (0, 0)).2))

section
variable {w w' : World} {B B' n : Nat} {A : Option Addr} {xs : List (Int × Int)}
theorem RS.nil : RS w B A 0 [] := ⟨rfl, fun h => absurd h (by omega)⟩
theorem RS.keep (h : RS w B A n xs) (hk : ∀ p : Addr, p.block < B → w'.cell? p = w.cell? p) : RS w' B A n xs :=
  ⟨h.1, fun hn => by
    obtain ⟨b, off, e, hb, hc⟩ := h.2 hn
    exact ⟨b, off, e, hb, fun j hj => ⟨(hk _ hb).trans (hc j hj).1, (hk _ hb).trans (hc j hj).2⟩⟩⟩
theorem RS.more (h : RS w B A n xs) (hB : B ≤ B') : RS w B' A n xs :=
  ⟨h.1, fun hn => by
    obtain ⟨b, off, e, hb, hc⟩ := h.2 hn
    exact ⟨b, off, e, by omega, hc⟩⟩
theorem RS.below (h : RS w B A n xs) (hb : Below B w w') : RS w' B A n xs := h.keep fun _ hp => hb.cell hp
theorem RS.next (h : RS w w.heap.size A n xs) (hb : Below w.heap.size w w') : RS w' w'.heap.size A n xs := (h.below hb).more hb.size
theorem RS.drewN (h : RS w B A n xs) (k : Nat) : RS (w.drewN k) B A n xs := h
end

/-- the same, with the block among those that are 'ok' -/
def RSo (w : World) (ok : Nat → Prop) (A : Option Addr) (n : Nat) (p : List (Int × Int)) : Prop :=
  p.length = n ∧ (0 < n → ∃ b off, A = some ⟨b, off, none⟩ ∧ ok b ∧
    ∀ j, j < n → w.cell? ⟨b, off + j * 2, none⟩ = some (.int .i64 (p.getD j (0, 0)).1) ∧ w.cell? ⟨b, off + j * 2 + 1, none⟩ = some (.int .i64 (p.getD j (0, 0)).2))
theorem RSo.rs {w : World} {ok : Nat → Prop} {B n : Nat} {A : Option Addr} {p : List (Int × Int)} (h : RSo w ok A n p) (ho : ∀ b, ok b → b < B) : RS w B A n p :=
  ⟨h.1, fun hn => by
    obtain ⟨b, off, e, hb, hc⟩ := h.2 hn
    exact ⟨b, off, e, ho b hb, hc⟩⟩
theorem RS.so {w : World} {B n : Nat} {A : Option Addr} {p : List (Int × Int)} (h : RS w B A n p) : RSo w (· < B) A n p := h
theorem RSo.keep {w w' : World} {ok ok' : Nat → Prop} {n : Nat} {A : Option Addr} {p : List (Int × Int)} (h : RSo w ok A n p) (hk : ∀ b, ok b → w'.heap[b]? = w.heap[b]?) (ho : ∀ b, ok b → ok' b) : RSo w' ok' A n p :=
  ⟨h.1, fun hn => by
    obtain ⟨b, off, e, hb, hc⟩ := h.2 hn
    exact ⟨b, off, e, ho b hb, fun j hj => ⟨(World.cell?_of_block (hk b hb)).trans (hc j hj).1, (World.cell?_of_block (hk b hb)).trans (hc j hj).2⟩⟩⟩

end Go.Proofs.Ytkhnlbkghjjdnaa
