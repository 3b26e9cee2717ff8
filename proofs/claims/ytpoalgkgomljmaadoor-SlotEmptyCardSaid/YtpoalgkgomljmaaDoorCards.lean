/-
  DERIVED. GIVEN WITH THE SEED: THE CARDS: each row of YtpoalgkgomljmaaDoorRows.lean that lists a variable, with what it lists TIED to the program's text (the seventh form; the later family's looks); each row that meets fmt, with fmt's text TOLD by the authors' own Lean function (tested against real Go, not proved from fmt's source: count such statements apart). THE CARD IS WHAT COUNTS. Prove the row's statement (the work); the ties are given (YtpoalgkgomljmaaDoorTie.lean); close each card by the builder's one call (the guide's Derived/Test/ToyasCard.lean, 'card_holds'). Laid BY PROGRAM, IN A SANDBOX (cutbox-door.mjs). By AI agents, Wed Nov 11 2026. No macro, syntax, notation, axiom, sorry.
-/
import Derived.Test.YtpoalgkgomljmaaDoorRows
import GoSem.ClaimSeven
namespace Go.Proofs.YtpoalgkgomljmaaDoor
namespace Rows

/-- THE TIED CARD OF 'bailiwicklaw13.SlotMore'. -/
def slotMoreCard : Claim7 := { stood := { row := slotMoreRow, standIns := [], harness := (true, "7e874db3aeab408adec4d2a631b2427b3b0a20bc7c3eae691967d9c64a0e3a89"), looks := false }, kinds := [], alts := [], laidByText := true, laidKinds := [.data], laidTests := true, laidLooks := .later }
def SlotMoreCardSaid : Prop := Claim7.holds Tryd.pinned (.plain (OpenSpec.ofChange slotMoreSpec)) slotMoreCard

/-- THE TIED CARD OF 'bailiwicklaw13.SlotEmpty'. -/
def slotEmptyCard : Claim7 := { stood := { row := slotEmptyRow, standIns := [], harness := (true, "7e874db3aeab408adec4d2a631b2427b3b0a20bc7c3eae691967d9c64a0e3a89"), looks := false }, kinds := [], alts := [], laidByText := true, laidKinds := [.data], laidTests := true, laidLooks := .later }
def SlotEmptyCardSaid : Prop := Claim7.holds Tryd.pinned (.plain (OpenSpec.ofChange slotEmptySpec)) slotEmptyCard

/-- THE SECOND FORM's CARD OF 'bailiwicklaw13.SlotMore'. -/
def slotMoreUptoCard : Claim7 := { stood := { row := slotMoreUptoRow, standIns := [], harness := (true, "7e874db3aeab408adec4d2a631b2427b3b0a20bc7c3eae691967d9c64a0e3a89"), looks := false }, kinds := [], alts := [], laidByText := true, laidKinds := [.data], laidTests := true, laidLooks := .later }
def SlotMoreUptoCardSaid : Prop := Claim7.holds Tryd.pinned (.plain (OpenSpec.upto slotMoreSpec)) slotMoreUptoCard

/-- THE SECOND FORM's CARD OF 'bailiwicklaw13.SlotEmpty'. -/
def slotEmptyUptoCard : Claim7 := { stood := { row := slotEmptyUptoRow, standIns := [], harness := (true, "7e874db3aeab408adec4d2a631b2427b3b0a20bc7c3eae691967d9c64a0e3a89"), looks := false }, kinds := [], alts := [], laidByText := true, laidKinds := [.data], laidTests := true, laidLooks := .later }
def SlotEmptyUptoCardSaid : Prop := Claim7.holds Tryd.pinned (.plain (OpenSpec.upto slotEmptySpec)) slotEmptyUptoCard
end Rows
end Go.Proofs.YtpoalgkgomljmaaDoor
