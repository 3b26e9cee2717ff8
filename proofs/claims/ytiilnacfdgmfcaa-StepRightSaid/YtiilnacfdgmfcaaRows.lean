/-
  No cell of these rows narrows 'for every input' (looked for: loops, veiled, ifaces, maps, wideKeys, modest, calm, conditions, laid).
  DERIVED. THE GIVEN ROWS OF THIS SEAT. 5 by the template 'for every input the law returns true; each argument reads behind the call as it read before'; 0 by the template 'total and deterministic' (their statements: YtiilnacfdgmfcaaTotals.lean).
  GIVEN WITH THE SEED: the statements are not yours to turn. If you find one false, say at which input.
  Laid BY PROGRAM, IN A SANDBOX (cutbox-rows.mjs): the forced cells as the released guide's own fill.sh prints them over the translation 533e88de8e0486bb… (all of the seat's roots in one cut). By AI agents, Wed Nov 11 2026. No macro, syntax, notation, axiom, sorry.
-/
import Derived.Test.YtiilnacfdgmfcaaChecked
import GoSem.Claim
import GoSem.ClaimJoined
import GoSem.ClaimMapViews
import Derived.JoinedTies
import Derived.KernelRfl
namespace Go.Proofs.Ytiilnacfdgmfcaa
/- THE CELL 'sum', in the pinned program and in every row, IS THE sha256 OF THE DUMP (.gsa) THAT YtiilnacfdgmfcaaProg.lean LOADS. Nothing in Lean hashes anything: it is a label: what it is worth is what the hold of that sum in a sandbox is worth. -/
noncomputable def Try.pinned : Pinned := { name := "ytiilnacfdgmfcaa", sum := "533e88de8e0486bb715c40be4a7c0d4af60387a6883d08bc8790c5ebe0da7158", checked := Try.checked }
namespace Rows
def none {H : Type} : Left H := { results := [], args := [] }

/-- 'bailiwicklaw03.StepRight': WHATEVER THE INPUT: true; the input reads as it did. -/
def stepRightSpec : ChangeSpec := { name := "stepRight", fn := fun _ => fun
  | [d1, d2, d3, d4] => { results := [.lit (.bool true)], args := [d1, d2, d3, d4] }
  | _ => none }
def stepRightRow : OpenClaim := { program := "ytiilnacfdgmfcaa", sum := "533e88de8e0486bb715c40be4a7c0d4af60387a6883d08bc8790c5ebe0da7158", func := "bailiwick/bailiwicklaw03.StepRight", spec := "stepRight", inPlace := ["slices.overlaps[bailiwick/api.Step]"], unfollowed := true, recurses := true, apart := false }
def StepRightSaid : Prop := stepRightRow.holds Try.pinned (OpenSpec.ofChange stepRightSpec)

/-- ITS FALSE NEIGHBOUR: 'it returns false'. Refute it at one input. -/
def stepRightWrong : ChangeSpec := { name := "stepRight", fn := fun _ => fun
  | [d1, d2, d3, d4] => { results := [.lit (.bool false)], args := [d1, d2, d3, d4] }
  | _ => none }
def StepRightWrongFalsely : Prop := stepRightRow.holds Try.pinned (OpenSpec.ofChange stepRightWrong)

/-- 'bailiwicklaw03.StepFirst': WHATEVER THE INPUT: true; the input reads as it did. -/
def stepFirstSpec : ChangeSpec := { name := "stepFirst", fn := fun _ => fun
  | [d1, d2, d3, d4] => { results := [.lit (.bool true)], args := [d1, d2, d3, d4] }
  | _ => none }
def stepFirstRow : OpenClaim := { program := "ytiilnacfdgmfcaa", sum := "533e88de8e0486bb715c40be4a7c0d4af60387a6883d08bc8790c5ebe0da7158", func := "bailiwick/bailiwicklaw03.StepFirst", spec := "stepFirst", inPlace := ["slices.overlaps[bailiwick/api.Step]"], unfollowed := true, recurses := true, apart := false }
def StepFirstSaid : Prop := stepFirstRow.holds Try.pinned (OpenSpec.ofChange stepFirstSpec)

/-- ITS FALSE NEIGHBOUR: 'it returns false'. Refute it at one input. -/
def stepFirstWrong : ChangeSpec := { name := "stepFirst", fn := fun _ => fun
  | [d1, d2, d3, d4] => { results := [.lit (.bool false)], args := [d1, d2, d3, d4] }
  | _ => none }
def StepFirstWrongFalsely : Prop := stepFirstRow.holds Try.pinned (OpenSpec.ofChange stepFirstWrong)

/-- 'bailiwicklaw03.StepTakes': WHATEVER THE INPUT: true; the input reads as it did. -/
def stepTakesSpec : ChangeSpec := { name := "stepTakes", fn := fun _ => fun
  | [d1, d2, d3, d4, d5] => { results := [.lit (.bool true)], args := [d1, d2, d3, d4, d5] }
  | _ => none }
def stepTakesRow : OpenClaim := { program := "ytiilnacfdgmfcaa", sum := "533e88de8e0486bb715c40be4a7c0d4af60387a6883d08bc8790c5ebe0da7158", func := "bailiwick/bailiwicklaw03.StepTakes", spec := "stepTakes", inPlace := ["slices.overlaps[bailiwick/api.Step]"], unfollowed := true, recurses := true, apart := false }
def StepTakesSaid : Prop := stepTakesRow.holds Try.pinned (OpenSpec.ofChange stepTakesSpec)

/-- ITS FALSE NEIGHBOUR: 'it returns false'. Refute it at one input. -/
def stepTakesWrong : ChangeSpec := { name := "stepTakes", fn := fun _ => fun
  | [d1, d2, d3, d4, d5] => { results := [.lit (.bool false)], args := [d1, d2, d3, d4, d5] }
  | _ => none }
def StepTakesWrongFalsely : Prop := stepTakesRow.holds Try.pinned (OpenSpec.ofChange stepTakesWrong)

/-- 'bailiwicklaw03.StepHolds': WHATEVER THE INPUT: true; the input reads as it did. -/
def stepHoldsSpec : ChangeSpec := { name := "stepHolds", fn := fun _ => fun
  | [d1, d2, d3, d4, d5] => { results := [.lit (.bool true)], args := [d1, d2, d3, d4, d5] }
  | _ => none }
def stepHoldsRow : OpenClaim := { program := "ytiilnacfdgmfcaa", sum := "533e88de8e0486bb715c40be4a7c0d4af60387a6883d08bc8790c5ebe0da7158", func := "bailiwick/bailiwicklaw03.StepHolds", spec := "stepHolds", inPlace := ["slices.overlaps[bailiwick/api.Step]"], unfollowed := true, recurses := true, apart := false }
def StepHoldsSaid : Prop := stepHoldsRow.holds Try.pinned (OpenSpec.ofChange stepHoldsSpec)

/-- ITS FALSE NEIGHBOUR: 'it returns false'. Refute it at one input. -/
def stepHoldsWrong : ChangeSpec := { name := "stepHolds", fn := fun _ => fun
  | [d1, d2, d3, d4, d5] => { results := [.lit (.bool false)], args := [d1, d2, d3, d4, d5] }
  | _ => none }
def StepHoldsWrongFalsely : Prop := stepHoldsRow.holds Try.pinned (OpenSpec.ofChange stepHoldsWrong)

/-- 'bailiwicklaw03.StepTwice': WHATEVER THE INPUT: true; the input reads as it did. -/
def stepTwiceSpec : ChangeSpec := { name := "stepTwice", fn := fun _ => fun
  | [d1, d2, d3, d4, d5, d6] => { results := [.lit (.bool true)], args := [d1, d2, d3, d4, d5, d6] }
  | _ => none }
def stepTwiceRow : OpenClaim := { program := "ytiilnacfdgmfcaa", sum := "533e88de8e0486bb715c40be4a7c0d4af60387a6883d08bc8790c5ebe0da7158", func := "bailiwick/bailiwicklaw03.StepTwice", spec := "stepTwice", inPlace := ["slices.overlaps[bailiwick/api.Step]"], unfollowed := true, recurses := true, apart := false }
def StepTwiceSaid : Prop := stepTwiceRow.holds Try.pinned (OpenSpec.ofChange stepTwiceSpec)

/-- ITS FALSE NEIGHBOUR: 'it returns false'. Refute it at one input. -/
def stepTwiceWrong : ChangeSpec := { name := "stepTwice", fn := fun _ => fun
  | [d1, d2, d3, d4, d5, d6] => { results := [.lit (.bool false)], args := [d1, d2, d3, d4, d5, d6] }
  | _ => none }
def StepTwiceWrongFalsely : Prop := stepTwiceRow.holds Try.pinned (OpenSpec.ofChange stepTwiceWrong)

/- THE SECOND FORM. 'bulk': how many values and letters a reading holds, each counted each time it is reached (what is shared counts as often as it is met; a slice's spare places count too). A statement '..UptoSaid' is the law's where the arguments, and the package variables that the reading takes, are together of bulk at most 1048576: NARROWER than '..Said'. Prove '..Said' where nothing that the law and all that it calls make is longer than what came in: it says more and counts as full. Else prove '..UptoSaid'. A law counts once. -/
mutual
def uptoBulk {H : Type} : DataW H → Nat
  | .lit (.string bytes) => bytes.length + 1
  | .lit _ => 1
  | .nil => 1
  | .ptr d => uptoBulk d + 1
  | .slice elems spare => uptoBulkAll elems + uptoBulkAll spare + 1
  | .agg parts => uptoBulkAll parts + 1
  | .iface _ d => uptoBulk d + 1
  | .map entries => uptoBulkEntries entries + 1
  | .held _ => 1
def uptoBulkAll {H : Type} : List (DataW H) → Nat
  | [] => 0
  | d :: r => uptoBulk d + uptoBulkAll r
def uptoBulkEntries {H : Type} : List (Lit × DataW H) → Nat
  | [] => 0
  | x :: r => uptoBulkEntry x + uptoBulkEntries r
def uptoBulkEntry {H : Type} : Lit × DataW H → Nat
  | (.string bytes, d) => bytes.length + uptoBulk d + 1
  | (_, d) => uptoBulk d + 1
 end
def uptoSmall : (H : Type) → List (DataW H) → Bool := fun _ ds => decide (uptoBulkAll ds ≤ 1048576)
def OpenSpec.upto (s : _root_.Go.ChangeSpec) : _root_.Go.OpenSpec := { _root_.Go.OpenSpec.ofChange s with cond := some uptoSmall }

/-- 'bailiwicklaw03.StepRight', WHERE WHAT IT READS IS OF BULK AT MOST 1048576: true; the input reads as it did. -/
def stepRightUptoRow : OpenClaim := { program := "ytiilnacfdgmfcaa", sum := "533e88de8e0486bb715c40be4a7c0d4af60387a6883d08bc8790c5ebe0da7158", func := "bailiwick/bailiwicklaw03.StepRight", spec := "stepRight", inPlace := ["slices.overlaps[bailiwick/api.Step]"], unfollowed := true, recurses := true, apart := false, narrowed := true }
def StepRightUptoSaid : Prop := stepRightUptoRow.holds Try.pinned (OpenSpec.upto stepRightSpec)

/-- 'bailiwicklaw03.StepFirst', WHERE WHAT IT READS IS OF BULK AT MOST 1048576: true; the input reads as it did. -/
def stepFirstUptoRow : OpenClaim := { program := "ytiilnacfdgmfcaa", sum := "533e88de8e0486bb715c40be4a7c0d4af60387a6883d08bc8790c5ebe0da7158", func := "bailiwick/bailiwicklaw03.StepFirst", spec := "stepFirst", inPlace := ["slices.overlaps[bailiwick/api.Step]"], unfollowed := true, recurses := true, apart := false, narrowed := true }
def StepFirstUptoSaid : Prop := stepFirstUptoRow.holds Try.pinned (OpenSpec.upto stepFirstSpec)

/-- 'bailiwicklaw03.StepTakes', WHERE WHAT IT READS IS OF BULK AT MOST 1048576: true; the input reads as it did. -/
def stepTakesUptoRow : OpenClaim := { program := "ytiilnacfdgmfcaa", sum := "533e88de8e0486bb715c40be4a7c0d4af60387a6883d08bc8790c5ebe0da7158", func := "bailiwick/bailiwicklaw03.StepTakes", spec := "stepTakes", inPlace := ["slices.overlaps[bailiwick/api.Step]"], unfollowed := true, recurses := true, apart := false, narrowed := true }
def StepTakesUptoSaid : Prop := stepTakesUptoRow.holds Try.pinned (OpenSpec.upto stepTakesSpec)

/-- 'bailiwicklaw03.StepHolds', WHERE WHAT IT READS IS OF BULK AT MOST 1048576: true; the input reads as it did. -/
def stepHoldsUptoRow : OpenClaim := { program := "ytiilnacfdgmfcaa", sum := "533e88de8e0486bb715c40be4a7c0d4af60387a6883d08bc8790c5ebe0da7158", func := "bailiwick/bailiwicklaw03.StepHolds", spec := "stepHolds", inPlace := ["slices.overlaps[bailiwick/api.Step]"], unfollowed := true, recurses := true, apart := false, narrowed := true }
def StepHoldsUptoSaid : Prop := stepHoldsUptoRow.holds Try.pinned (OpenSpec.upto stepHoldsSpec)

/-- 'bailiwicklaw03.StepTwice', WHERE WHAT IT READS IS OF BULK AT MOST 1048576: true; the input reads as it did. -/
def stepTwiceUptoRow : OpenClaim := { program := "ytiilnacfdgmfcaa", sum := "533e88de8e0486bb715c40be4a7c0d4af60387a6883d08bc8790c5ebe0da7158", func := "bailiwick/bailiwicklaw03.StepTwice", spec := "stepTwice", inPlace := ["slices.overlaps[bailiwick/api.Step]"], unfollowed := true, recurses := true, apart := false, narrowed := true }
def StepTwiceUptoSaid : Prop := stepTwiceUptoRow.holds Try.pinned (OpenSpec.upto stepTwiceSpec)

end Rows
end Go.Proofs.Ytiilnacfdgmfcaa
