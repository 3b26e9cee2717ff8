/-
  DERIVED. GIVEN WITH THE SEED: THE CARDS: each row of YtglboolijhekkaaDoorRows.lean that lists a variable, with what it lists TIED to the program's text (the seventh form; the later family's looks); each row that meets fmt, with fmt's text TOLD by the authors' own Lean function (tested against real Go, not proved from fmt's source: count such statements apart). THE CARD IS WHAT COUNTS. Prove the row's statement (the work); the ties are given (YtglboolijhekkaaDoorTie.lean); close each card by the builder's one call (the guide's Derived/Test/ToyasCard.lean, 'card_holds'). Laid BY PROGRAM, IN A SANDBOX (cutbox-door.mjs). By AI agents, Wed Nov 11 2026. No macro, syntax, notation, axiom, sorry.
-/
import Derived.Test.YtglboolijhekkaaDoorRows
import GoSem.ClaimSeven
namespace Go.Proofs.YtglboolijhekkaaDoor
namespace Rows

/-- THE TIED CARD OF 'bailiwicklaw09.MatchFits'. -/
def matchFitsCard : Claim7 := { stood := { row := matchFitsRow, standIns := [], harness := (true, "ae7d13369bc764c5abf8e9dcc8a0bfb1b571f4b89889daa062b64dccb94521eb"), looks := false }, kinds := [], alts := [], laidByText := true, laidKinds := [.data], laidTests := true, laidLooks := .later }
def MatchFitsCardSaid : Prop := Claim7.holds Tryd.pinned (.plain (OpenSpec.ofChange matchFitsSpec)) matchFitsCard

/-- THE TIED CARD OF 'bailiwicklaw09.MatchMore'. -/
def matchMoreCard : Claim7 := { stood := { row := matchMoreRow, standIns := [], harness := (true, "ae7d13369bc764c5abf8e9dcc8a0bfb1b571f4b89889daa062b64dccb94521eb"), looks := false }, kinds := [], alts := [], laidByText := true, laidKinds := [.data], laidTests := true, laidLooks := .later }
def MatchMoreCardSaid : Prop := Claim7.holds Tryd.pinned (.plain (OpenSpec.ofChange matchMoreSpec)) matchMoreCard

/-- THE SECOND FORM's CARD OF 'bailiwicklaw09.MatchFits'. -/
def matchFitsUptoCard : Claim7 := { stood := { row := matchFitsUptoRow, standIns := [], harness := (true, "ae7d13369bc764c5abf8e9dcc8a0bfb1b571f4b89889daa062b64dccb94521eb"), looks := false }, kinds := [], alts := [], laidByText := true, laidKinds := [.data], laidTests := true, laidLooks := .later }
def MatchFitsUptoCardSaid : Prop := Claim7.holds Tryd.pinned (.plain (OpenSpec.upto matchFitsSpec)) matchFitsUptoCard

/-- THE SECOND FORM's CARD OF 'bailiwicklaw09.MatchMore'. -/
def matchMoreUptoCard : Claim7 := { stood := { row := matchMoreUptoRow, standIns := [], harness := (true, "ae7d13369bc764c5abf8e9dcc8a0bfb1b571f4b89889daa062b64dccb94521eb"), looks := false }, kinds := [], alts := [], laidByText := true, laidKinds := [.data], laidTests := true, laidLooks := .later }
def MatchMoreUptoCardSaid : Prop := Claim7.holds Tryd.pinned (.plain (OpenSpec.upto matchMoreSpec)) matchMoreUptoCard
end Rows
end Go.Proofs.YtglboolijhekkaaDoor
