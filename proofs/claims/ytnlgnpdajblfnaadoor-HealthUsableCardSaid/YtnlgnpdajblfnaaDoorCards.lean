/-
  DERIVED. GIVEN WITH THE SEED: THE CARDS: each row of YtnlgnpdajblfnaaDoorRows.lean that lists a variable, with what it lists TIED to the program's text (the seventh form; the later family's looks); each row that meets fmt, with fmt's text TOLD by the authors' own Lean function (tested against real Go, not proved from fmt's source: count such statements apart). THE CARD IS WHAT COUNTS. Prove the row's statement (the work); the ties are given (YtnlgnpdajblfnaaDoorTie.lean); close each card by the builder's one call (the guide's Derived/Test/ToyasCard.lean, 'card_holds'). Laid BY PROGRAM, IN A SANDBOX (cutbox-door.mjs). By AI agents, Wed Nov 11 2026. No macro, syntax, notation, axiom, sorry.
-/
import Derived.Test.YtnlgnpdajblfnaaDoorRows
import GoSem.ClaimSeven
namespace Go.Proofs.YtnlgnpdajblfnaaDoor
namespace Rows

/-- THE TIED CARD OF 'bailiwicklaw06.HealthUsable'. -/
def healthUsableCard : Claim7 := { stood := { row := healthUsableRow, standIns := [], harness := (true, "4a2fa5e6962624565782fbe9a1990ff74b780a942a7245714009d00ce3718c7f"), looks := false }, kinds := [], alts := [], laidByText := true, laidKinds := [.data], laidTests := true, laidLooks := .later }
def HealthUsableCardSaid : Prop := Claim7.holds Tryd.pinned (.plain (OpenSpec.ofChange healthUsableSpec)) healthUsableCard

/-- THE TIED CARD OF 'bailiwicklaw06.HealthSets'. -/
def healthSetsCard : Claim7 := { stood := { row := healthSetsRow, standIns := [], harness := (true, "4a2fa5e6962624565782fbe9a1990ff74b780a942a7245714009d00ce3718c7f"), looks := false }, kinds := [], alts := [], laidByText := true, laidKinds := [.data], laidTests := true, laidLooks := .later }
def HealthSetsCardSaid : Prop := Claim7.holds Tryd.pinned (.plain (OpenSpec.ofChange healthSetsSpec)) healthSetsCard

/-- THE SECOND FORM's CARD OF 'bailiwicklaw06.HealthUsable'. -/
def healthUsableUptoCard : Claim7 := { stood := { row := healthUsableUptoRow, standIns := [], harness := (true, "4a2fa5e6962624565782fbe9a1990ff74b780a942a7245714009d00ce3718c7f"), looks := false }, kinds := [], alts := [], laidByText := true, laidKinds := [.data], laidTests := true, laidLooks := .later }
def HealthUsableUptoCardSaid : Prop := Claim7.holds Tryd.pinned (.plain (OpenSpec.upto healthUsableSpec)) healthUsableUptoCard

/-- THE SECOND FORM's CARD OF 'bailiwicklaw06.HealthSets'. -/
def healthSetsUptoCard : Claim7 := { stood := { row := healthSetsUptoRow, standIns := [], harness := (true, "4a2fa5e6962624565782fbe9a1990ff74b780a942a7245714009d00ce3718c7f"), looks := false }, kinds := [], alts := [], laidByText := true, laidKinds := [.data], laidTests := true, laidLooks := .later }
def HealthSetsUptoCardSaid : Prop := Claim7.holds Tryd.pinned (.plain (OpenSpec.upto healthSetsSpec)) healthSetsUptoCard
end Rows
end Go.Proofs.YtnlgnpdajblfnaaDoor
