/- Words for memory: a slice of things that reads as a graph's list. -/
import Derived.Test.YtpaabeadiokgoaaGraphMath
import Derived.Test.YtpaabeadiokgoaaReadN
import Derived.Test.YtpaabeadiokgoaaSetMem
namespace Go.Proofs.Ytpaabeadiokgoaa
open Go.RowKit

/-- a thing as an element: three cells -/
def ETh : Elem Th := fun _ _ x vs => vs = [.int .i64 x.kind, .int .i64 x.up, .string x.tag] ∧ I64 x.kind ∧ I64 x.up ∧ x.tag.size ≤ maxLen
theorem eth_steady : Steady ETh := ⟨fun h _ _ => h⟩
/-- '.slice A n c' reads as the things g, all below block B -/
def RG (w : World) (B : Nat) (A : Option Addr) (n : Nat) (g : Gr) : Prop := RN ETh 3 w (Lt B) A n g
section
variable {w w' : World} {B n : Nat} {A : Option Addr} {g : Gr}
theorem RG.len (h : RG w B A n g) : g.length = n := h.1
theorem RG.nil : RG w B A 0 [] := RN.nil
theorem RG.next (h : RG w w.heap.size A n g) (hb : Below w.heap.size w w') : RG w' w'.heap.size A n g := RN.next eth_steady h hb
theorem RG.below (h : RG w B A n g) (hb : Below B w w') : RG w' B A n g := RN.below eth_steady h hb
theorem RG.drewN (h : RG w B A n g) (k : Nat) : RG (w.drewN k) B A n g := RN.drewN h eth_steady k
theorem RG.one (h : RG w B A n g) {k : Nat} (hk : k < n) : ∃ b off, A = some ⟨b, off, none⟩ ∧ b < B ∧ w.cell? ⟨b, off + k * 3, none⟩ = some (.int .i64 (gk g k)) ∧ w.cell? ⟨b, off + k * 3 + 1, none⟩ = some (.int .i64 (gu g k)) ∧ w.cell? ⟨b, off + k * 3 + 2, none⟩ = some (.string (gt g k)) ∧ (I64 (gk g k) ∧ I64 (gu g k) ∧ (gt g k).size ≤ maxLen) := by
  have hl : k < g.length := by rw [h.1]; exact hk
  obtain ⟨b, off, vs, e, hb, _, hc, hv⟩ := RN.at h (List.getElem?_eq_getElem hl)
  obtain ⟨hv', hb1⟩ := hv
  subst hv'
  have hg : g.getD k th0 = g[k] := by rw [List.getD, List.getElem?_eq_getElem hl]; rfl
  refine ⟨b, off, e, hb, ?_, ?_, ?_, by unfold gk gu gt; rw [hg]; exact hb1⟩
  · have := hc 0 _ rfl; unfold gk; rw [hg]; exact this
  · have := hc 1 _ rfl; unfold gu; rw [hg]; exact this
  · have := hc 2 _ rfl; unfold gt; rw [hg]; exact this
end

/-- the counts of five kinds, as an array's value -/
def kVal (g : Gr) (l : List Int) : Value := .agg #[.int .i64 (kc g l 0), .int .i64 (kc g l 1), .int .i64 (kc g l 2), .int .i64 (kc g l 3), .int .i64 (kc g l 4)]

end Go.Proofs.Ytpaabeadiokgoaa
