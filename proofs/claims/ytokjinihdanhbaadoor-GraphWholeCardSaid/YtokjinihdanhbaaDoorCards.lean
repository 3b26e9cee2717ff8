/-
  DERIVED. GIVEN WITH THE SEED: THE CARDS: each row of YtokjinihdanhbaaDoorRows.lean that lists a variable, with what it lists TIED to the program's text (the seventh form; the later family's looks); each row that meets fmt, with fmt's text TOLD by the authors' own Lean function (tested against real Go, not proved from fmt's source: count such statements apart). THE CARD IS WHAT COUNTS. Prove the row's statement (the work); the ties are given (YtokjinihdanhbaaDoorTie.lean); close each card by the builder's one call (the guide's Derived/Test/ToyasCard.lean, 'card_holds'). Laid BY PROGRAM, IN A SANDBOX (cutbox-door.mjs). By AI agents, Wed Nov 11 2026. No macro, syntax, notation, axiom, sorry.
-/
import Derived.Test.YtokjinihdanhbaaDoorRows
import GoSem.ClaimSeven
namespace Go.Proofs.YtokjinihdanhbaaDoor
namespace Rows

/-- THE TIED CARD OF 'bailiwicklaw05.GraphWhole'. -/
def graphWholeCard : Claim7 := { stood := { row := graphWholeRow, standIns := [], harness := (true, "70d4ab80e2eefd1c6bfc76585a0eb9d5d72d58e7224efe3a157eb59cf202bd9c"), looks := false }, kinds := [], alts := [], laidByText := true, laidKinds := [.data], laidTests := true, laidLooks := .later }
def GraphWholeCardSaid : Prop := Claim7.holds Tryd.pinned (.plain (OpenSpec.ofChange graphWholeSpec)) graphWholeCard

/-- THE SECOND FORM's CARD OF 'bailiwicklaw05.GraphWhole'. -/
def graphWholeUptoCard : Claim7 := { stood := { row := graphWholeUptoRow, standIns := [], harness := (true, "70d4ab80e2eefd1c6bfc76585a0eb9d5d72d58e7224efe3a157eb59cf202bd9c"), looks := false }, kinds := [], alts := [], laidByText := true, laidKinds := [.data], laidTests := true, laidLooks := .later }
def GraphWholeUptoCardSaid : Prop := Claim7.holds Tryd.pinned (.plain (OpenSpec.upto graphWholeSpec)) graphWholeUptoCard
end Rows
end Go.Proofs.YtokjinihdanhbaaDoor
