/-
  DERIVED. GIVEN WITH THE SEED: THE CARDS: each row of YtchogijdkagiiaaGreatDoorRows.lean that lists a variable, with what it lists TIED to the program's text (the seventh form; the later family's looks); each row that meets fmt, with fmt's text TOLD by the authors' own Lean function (tested against real Go, not proved from fmt's source: count such statements apart). THE CARD IS WHAT COUNTS. Prove the row's statement (the work); the ties are given (YtchogijdkagiiaaGreatDoorTie.lean); close each card by the builder's one call (the guide's Derived/Test/ToyasCard.lean, 'card_holds'). Laid BY PROGRAM, IN A SANDBOX (cutbox-door.mjs). By AI agents, Wed Nov 11 2026. No macro, syntax, notation, axiom, sorry.
-/
import Derived.Test.YtchogijdkagiiaaGreatDoorRows
import GoSem.ClaimSeven
namespace Go.Proofs.YtchogijdkagiiaaGreatDoor
namespace Rows

/-- THE TIED CARD OF 'bailiwicklaw14.PickRight'. -/
def pickRightCard : Claim7 := { stood := { row := pickRightRow, standIns := [], harness := (true, "8c5478cf4391bd6d50108ed3b8d54d386ae521f2846d07b72ddbb5f01be24bc2"), looks := false }, kinds := [], alts := [], laidByText := true, laidKinds := [.data], laidTests := true, laidLooks := .later }
def PickRightCardSaid : Prop := Claim7.holds Tryz.pinned (.plain (OpenSpec.ofChange pickRightSpec)) pickRightCard

/-- THE TIED CARD OF 'bailiwicklaw14.PickBegins'. -/
def pickBeginsCard : Claim7 := { stood := { row := pickBeginsRow, standIns := [], harness := (true, "8c5478cf4391bd6d50108ed3b8d54d386ae521f2846d07b72ddbb5f01be24bc2"), looks := false }, kinds := [], alts := [], laidByText := true, laidKinds := [.data], laidTests := true, laidLooks := .later }
def PickBeginsCardSaid : Prop := Claim7.holds Tryz.pinned (.plain (OpenSpec.ofChange pickBeginsSpec)) pickBeginsCard

/-- THE TIED CARD OF 'bailiwicklaw14.PickOrder'. -/
def pickOrderCard : Claim7 := { stood := { row := pickOrderRow, standIns := [], harness := (true, "8c5478cf4391bd6d50108ed3b8d54d386ae521f2846d07b72ddbb5f01be24bc2"), looks := false }, kinds := [], alts := [], laidByText := true, laidKinds := [.data], laidTests := true, laidLooks := .later }
def PickOrderCardSaid : Prop := Claim7.holds Tryz.pinned (.plain (OpenSpec.ofChange pickOrderSpec)) pickOrderCard

/-- THE TIED CARD OF 'bailiwicklaw14.PickKeeps'. -/
def pickKeepsCard : Claim7 := { stood := { row := pickKeepsRow, standIns := [], harness := (true, "8c5478cf4391bd6d50108ed3b8d54d386ae521f2846d07b72ddbb5f01be24bc2"), looks := false }, kinds := [], alts := [], laidByText := true, laidKinds := [.data], laidTests := true, laidLooks := .later }
def PickKeepsCardSaid : Prop := Claim7.holds Tryz.pinned (.plain (OpenSpec.ofChange pickKeepsSpec)) pickKeepsCard

/-- THE TIED CARD OF 'bailiwicklaw14.PickAlone'. -/
def pickAloneCard : Claim7 := { stood := { row := pickAloneRow, standIns := [], harness := (true, "8c5478cf4391bd6d50108ed3b8d54d386ae521f2846d07b72ddbb5f01be24bc2"), looks := false }, kinds := [], alts := [], laidByText := true, laidKinds := [.data], laidTests := true, laidLooks := .later }
def PickAloneCardSaid : Prop := Claim7.holds Tryz.pinned (.plain (OpenSpec.ofChange pickAloneSpec)) pickAloneCard

/-- THE TIED CARD OF 'bailiwicklaw14.PickFirst'. -/
def pickFirstCard : Claim7 := { stood := { row := pickFirstRow, standIns := [], harness := (true, "8c5478cf4391bd6d50108ed3b8d54d386ae521f2846d07b72ddbb5f01be24bc2"), looks := false }, kinds := [], alts := [], laidByText := true, laidKinds := [.data], laidTests := true, laidLooks := .later }
def PickFirstCardSaid : Prop := Claim7.holds Tryz.pinned (.plain (OpenSpec.ofChange pickFirstSpec)) pickFirstCard

/-- THE SECOND FORM's CARD OF 'bailiwicklaw14.PickRight'. -/
def pickRightUptoCard : Claim7 := { stood := { row := pickRightUptoRow, standIns := [], harness := (true, "8c5478cf4391bd6d50108ed3b8d54d386ae521f2846d07b72ddbb5f01be24bc2"), looks := false }, kinds := [], alts := [], laidByText := true, laidKinds := [.data], laidTests := true, laidLooks := .later }
def PickRightUptoCardSaid : Prop := Claim7.holds Tryz.pinned (.plain (OpenSpec.upto pickRightSpec)) pickRightUptoCard

/-- THE SECOND FORM's CARD OF 'bailiwicklaw14.PickBegins'. -/
def pickBeginsUptoCard : Claim7 := { stood := { row := pickBeginsUptoRow, standIns := [], harness := (true, "8c5478cf4391bd6d50108ed3b8d54d386ae521f2846d07b72ddbb5f01be24bc2"), looks := false }, kinds := [], alts := [], laidByText := true, laidKinds := [.data], laidTests := true, laidLooks := .later }
def PickBeginsUptoCardSaid : Prop := Claim7.holds Tryz.pinned (.plain (OpenSpec.upto pickBeginsSpec)) pickBeginsUptoCard

/-- THE SECOND FORM's CARD OF 'bailiwicklaw14.PickOrder'. -/
def pickOrderUptoCard : Claim7 := { stood := { row := pickOrderUptoRow, standIns := [], harness := (true, "8c5478cf4391bd6d50108ed3b8d54d386ae521f2846d07b72ddbb5f01be24bc2"), looks := false }, kinds := [], alts := [], laidByText := true, laidKinds := [.data], laidTests := true, laidLooks := .later }
def PickOrderUptoCardSaid : Prop := Claim7.holds Tryz.pinned (.plain (OpenSpec.upto pickOrderSpec)) pickOrderUptoCard

/-- THE SECOND FORM's CARD OF 'bailiwicklaw14.PickKeeps'. -/
def pickKeepsUptoCard : Claim7 := { stood := { row := pickKeepsUptoRow, standIns := [], harness := (true, "8c5478cf4391bd6d50108ed3b8d54d386ae521f2846d07b72ddbb5f01be24bc2"), looks := false }, kinds := [], alts := [], laidByText := true, laidKinds := [.data], laidTests := true, laidLooks := .later }
def PickKeepsUptoCardSaid : Prop := Claim7.holds Tryz.pinned (.plain (OpenSpec.upto pickKeepsSpec)) pickKeepsUptoCard

/-- THE SECOND FORM's CARD OF 'bailiwicklaw14.PickAlone'. -/
def pickAloneUptoCard : Claim7 := { stood := { row := pickAloneUptoRow, standIns := [], harness := (true, "8c5478cf4391bd6d50108ed3b8d54d386ae521f2846d07b72ddbb5f01be24bc2"), looks := false }, kinds := [], alts := [], laidByText := true, laidKinds := [.data], laidTests := true, laidLooks := .later }
def PickAloneUptoCardSaid : Prop := Claim7.holds Tryz.pinned (.plain (OpenSpec.upto pickAloneSpec)) pickAloneUptoCard

/-- THE SECOND FORM's CARD OF 'bailiwicklaw14.PickFirst'. -/
def pickFirstUptoCard : Claim7 := { stood := { row := pickFirstUptoRow, standIns := [], harness := (true, "8c5478cf4391bd6d50108ed3b8d54d386ae521f2846d07b72ddbb5f01be24bc2"), looks := false }, kinds := [], alts := [], laidByText := true, laidKinds := [.data], laidTests := true, laidLooks := .later }
def PickFirstUptoCardSaid : Prop := Claim7.holds Tryz.pinned (.plain (OpenSpec.upto pickFirstSpec)) pickFirstUptoCard
end Rows
end Go.Proofs.YtchogijdkagiiaaGreatDoor
