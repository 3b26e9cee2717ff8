/-
  DERIVED. GIVEN WITH THE SEED: THE CARDS: each row of YtpoalgkgomljmaaGreatDoorRows.lean that lists a variable, with what it lists TIED to the program's text (the seventh form; the later family's looks); each row that meets fmt, with fmt's text TOLD by the authors' own Lean function (tested against real Go, not proved from fmt's source: count such statements apart). THE CARD IS WHAT COUNTS. Prove the row's statement (the work); the ties are given (YtpoalgkgomljmaaGreatDoorTie.lean); close each card by the builder's one call (the guide's Derived/Test/ToyasCard.lean, 'card_holds'). Laid BY PROGRAM, IN A SANDBOX (cutbox-door.mjs). By AI agents, Wed Nov 11 2026. No macro, syntax, notation, axiom, sorry.
-/
import Derived.Test.YtpoalgkgomljmaaGreatDoorRows
import GoSem.ClaimSeven
namespace Go.Proofs.YtpoalgkgomljmaaGreatDoor
namespace Rows

/-- THE TIED CARD OF 'bailiwicklaw13.SlotRight'. -/
def slotRightCard : Claim7 := { stood := { row := slotRightRow, standIns := [], harness := (true, "e06082a73ce1aead85c7fa4d9c1938d7df92405a402eac9fc375a4cf2ad0d3db"), looks := false }, kinds := [], alts := [], laidByText := true, laidKinds := [.data], laidTests := true, laidLooks := .later }
def SlotRightCardSaid : Prop := Claim7.holds Tryz.pinned (.plain (OpenSpec.ofChange slotRightSpec)) slotRightCard

/-- THE TIED CARD OF 'bailiwicklaw13.SlotPlans'. -/
def slotPlansCard : Claim7 := { stood := { row := slotPlansRow, standIns := [], harness := (true, "e06082a73ce1aead85c7fa4d9c1938d7df92405a402eac9fc375a4cf2ad0d3db"), looks := false }, kinds := [], alts := [], laidByText := true, laidKinds := [.data], laidTests := true, laidLooks := .later }
def SlotPlansCardSaid : Prop := Claim7.holds Tryz.pinned (.plain (OpenSpec.ofChange slotPlansSpec)) slotPlansCard

/-- THE TIED CARD OF 'bailiwicklaw13.SlotFirst'. -/
def slotFirstCard : Claim7 := { stood := { row := slotFirstRow, standIns := [], harness := (true, "e06082a73ce1aead85c7fa4d9c1938d7df92405a402eac9fc375a4cf2ad0d3db"), looks := false }, kinds := [], alts := [], laidByText := true, laidKinds := [.data], laidTests := true, laidLooks := .later }
def SlotFirstCardSaid : Prop := Claim7.holds Tryz.pinned (.plain (OpenSpec.ofChange slotFirstSpec)) slotFirstCard

/-- THE TIED CARD OF 'bailiwicklaw13.SlotKeeps'. -/
def slotKeepsCard : Claim7 := { stood := { row := slotKeepsRow, standIns := [], harness := (true, "e06082a73ce1aead85c7fa4d9c1938d7df92405a402eac9fc375a4cf2ad0d3db"), looks := false }, kinds := [], alts := [], laidByText := true, laidKinds := [.data], laidTests := true, laidLooks := .later }
def SlotKeepsCardSaid : Prop := Claim7.holds Tryz.pinned (.plain (OpenSpec.ofChange slotKeepsSpec)) slotKeepsCard

/-- THE SECOND FORM's CARD OF 'bailiwicklaw13.SlotRight'. -/
def slotRightUptoCard : Claim7 := { stood := { row := slotRightUptoRow, standIns := [], harness := (true, "e06082a73ce1aead85c7fa4d9c1938d7df92405a402eac9fc375a4cf2ad0d3db"), looks := false }, kinds := [], alts := [], laidByText := true, laidKinds := [.data], laidTests := true, laidLooks := .later }
def SlotRightUptoCardSaid : Prop := Claim7.holds Tryz.pinned (.plain (OpenSpec.upto slotRightSpec)) slotRightUptoCard

/-- THE SECOND FORM's CARD OF 'bailiwicklaw13.SlotPlans'. -/
def slotPlansUptoCard : Claim7 := { stood := { row := slotPlansUptoRow, standIns := [], harness := (true, "e06082a73ce1aead85c7fa4d9c1938d7df92405a402eac9fc375a4cf2ad0d3db"), looks := false }, kinds := [], alts := [], laidByText := true, laidKinds := [.data], laidTests := true, laidLooks := .later }
def SlotPlansUptoCardSaid : Prop := Claim7.holds Tryz.pinned (.plain (OpenSpec.upto slotPlansSpec)) slotPlansUptoCard

/-- THE SECOND FORM's CARD OF 'bailiwicklaw13.SlotFirst'. -/
def slotFirstUptoCard : Claim7 := { stood := { row := slotFirstUptoRow, standIns := [], harness := (true, "e06082a73ce1aead85c7fa4d9c1938d7df92405a402eac9fc375a4cf2ad0d3db"), looks := false }, kinds := [], alts := [], laidByText := true, laidKinds := [.data], laidTests := true, laidLooks := .later }
def SlotFirstUptoCardSaid : Prop := Claim7.holds Tryz.pinned (.plain (OpenSpec.upto slotFirstSpec)) slotFirstUptoCard

/-- THE SECOND FORM's CARD OF 'bailiwicklaw13.SlotKeeps'. -/
def slotKeepsUptoCard : Claim7 := { stood := { row := slotKeepsUptoRow, standIns := [], harness := (true, "e06082a73ce1aead85c7fa4d9c1938d7df92405a402eac9fc375a4cf2ad0d3db"), looks := false }, kinds := [], alts := [], laidByText := true, laidKinds := [.data], laidTests := true, laidLooks := .later }
def SlotKeepsUptoCardSaid : Prop := Claim7.holds Tryz.pinned (.plain (OpenSpec.upto slotKeepsSpec)) slotKeepsUptoCard
end Rows
end Go.Proofs.YtpoalgkgomljmaaGreatDoor
