/-
  DERIVED. GIVEN WITH THE SEED: THE CARDS: each row of YtbiofikijehlcaaDoorRows.lean that lists a variable, with what it lists TIED to the program's text (the seventh form; the later family's looks); each row that meets fmt, with fmt's text TOLD by the authors' own Lean function (tested against real Go, not proved from fmt's source: count such statements apart). THE CARD IS WHAT COUNTS. Prove the row's statement (the work); the ties are given (YtbiofikijehlcaaDoorTie.lean); close each card by the builder's one call (the guide's Derived/Test/ToyasCard.lean, 'card_holds'). Laid BY PROGRAM, IN A SANDBOX (cutbox-door.mjs). By AI agents, Wed Nov 11 2026. No macro, syntax, notation, axiom, sorry.
-/
import Derived.Test.YtbiofikijehlcaaDoorRows
import GoSem.ClaimSeven
namespace Go.Proofs.YtbiofikijehlcaaDoor
namespace Rows

/-- THE TIED CARD OF 'bailiwicklaw10.HeldLater'. -/
def heldLaterCard : Claim7 := { stood := { row := heldLaterRow, standIns := [], harness := (true, "99653241ef58c0b43e5ceb952e8306113040bf7cece278499d1beccbf6da6ec1"), looks := false }, kinds := [], alts := [], laidByText := true, laidKinds := [.data], laidTests := true, laidLooks := .later }
def HeldLaterCardSaid : Prop := Claim7.holds Tryd.pinned (.plain (OpenSpec.ofChange heldLaterSpec)) heldLaterCard

/-- THE SECOND FORM's CARD OF 'bailiwicklaw10.HeldLater'. -/
def heldLaterUptoCard : Claim7 := { stood := { row := heldLaterUptoRow, standIns := [], harness := (true, "99653241ef58c0b43e5ceb952e8306113040bf7cece278499d1beccbf6da6ec1"), looks := false }, kinds := [], alts := [], laidByText := true, laidKinds := [.data], laidTests := true, laidLooks := .later }
def HeldLaterUptoCardSaid : Prop := Claim7.holds Tryd.pinned (.plain (OpenSpec.upto heldLaterSpec)) heldLaterUptoCard
end Rows
end Go.Proofs.YtbiofikijehlcaaDoor
