/-
  No cell of these rows narrows 'for every input' (looked for: loops, veiled, ifaces, maps, wideKeys, modest, calm, conditions, laid).
  DERIVED. THE GIVEN ROWS OF THIS SEAT. 4 by the template 'for every input the law returns true; each argument reads behind the call as it read before'; 0 by the template 'total and deterministic' (their statements: YtbiofikijehlcaaTotals.lean).
  GIVEN WITH THE SEED: the statements are not yours to turn. If you find one false, say at which input.
  Laid BY PROGRAM, IN A SANDBOX (cutbox-rows.mjs): the forced cells as the released guide's own fill.sh prints them over the translation fa0ec43164ad927b… (all of the seat's roots in one cut). By AI agents, Wed Nov 11 2026. No macro, syntax, notation, axiom, sorry.
-/
import Derived.Test.YtbiofikijehlcaaChecked
import GoSem.Claim
import GoSem.ClaimJoined
import GoSem.ClaimMapViews
import Derived.JoinedTies
import Derived.KernelRfl
namespace Go.Proofs.Ytbiofikijehlcaa
/- THE CELL 'sum', in the pinned program and in every row, IS THE sha256 OF THE DUMP (.gsa) THAT YtbiofikijehlcaaProg.lean LOADS. Nothing in Lean hashes anything: it is a label: what it is worth is what the hold of that sum in a sandbox is worth. -/
noncomputable def Try.pinned : Pinned := { name := "ytbiofikijehlcaa", sum := "fa0ec43164ad927b38e6d2204e5e758ea61b5aa8d1ca67fc46cbe88b537b6a44", checked := Try.checked }
namespace Rows
def none {H : Type} : Left H := { results := [], args := [] }

/-- 'bailiwicklaw10.HeldSpans': WHATEVER THE INPUT: true; the input reads as it did. -/
def heldSpansSpec : ChangeSpec := { name := "heldSpans", fn := fun _ => fun
  | [d1, d2, d3] => { results := [.lit (.bool true)], args := [d1, d2, d3] }
  | _ => none }
def heldSpansRow : OpenClaim := { program := "ytbiofikijehlcaa", sum := "fa0ec43164ad927b38e6d2204e5e758ea61b5aa8d1ca67fc46cbe88b537b6a44", func := "bailiwick/bailiwicklaw10.HeldSpans", spec := "heldSpans", inPlace := ["slices.overlaps[bailiwick/api.Held]"], unfollowed := true, recurses := true, apart := false }
def HeldSpansSaid : Prop := heldSpansRow.holds Try.pinned (OpenSpec.ofChange heldSpansSpec)

/-- ITS FALSE NEIGHBOUR: 'it returns false'. Refute it at one input. -/
def heldSpansWrong : ChangeSpec := { name := "heldSpans", fn := fun _ => fun
  | [d1, d2, d3] => { results := [.lit (.bool false)], args := [d1, d2, d3] }
  | _ => none }
def HeldSpansWrongFalsely : Prop := heldSpansRow.holds Try.pinned (OpenSpec.ofChange heldSpansWrong)

/-- 'bailiwicklaw10.HeldApart': WHATEVER THE INPUT: true; the input reads as it did. -/
def heldApartSpec : ChangeSpec := { name := "heldApart", fn := fun _ => fun
  | [d1, d2, d3] => { results := [.lit (.bool true)], args := [d1, d2, d3] }
  | _ => none }
def heldApartRow : OpenClaim := { program := "ytbiofikijehlcaa", sum := "fa0ec43164ad927b38e6d2204e5e758ea61b5aa8d1ca67fc46cbe88b537b6a44", func := "bailiwick/bailiwicklaw10.HeldApart", spec := "heldApart", inPlace := ["slices.overlaps[bailiwick/api.Held]"], unfollowed := true, recurses := true, apart := false }
def HeldApartSaid : Prop := heldApartRow.holds Try.pinned (OpenSpec.ofChange heldApartSpec)

/-- ITS FALSE NEIGHBOUR: 'it returns false'. Refute it at one input. -/
def heldApartWrong : ChangeSpec := { name := "heldApart", fn := fun _ => fun
  | [d1, d2, d3] => { results := [.lit (.bool false)], args := [d1, d2, d3] }
  | _ => none }
def HeldApartWrongFalsely : Prop := heldApartRow.holds Try.pinned (OpenSpec.ofChange heldApartWrong)

/-- 'bailiwicklaw10.HeldBack': WHATEVER THE INPUT: true; the input reads as it did. -/
def heldBackSpec : ChangeSpec := { name := "heldBack", fn := fun _ => fun
  | [d1, d2, d3] => { results := [.lit (.bool true)], args := [d1, d2, d3] }
  | _ => none }
def heldBackRow : OpenClaim := { program := "ytbiofikijehlcaa", sum := "fa0ec43164ad927b38e6d2204e5e758ea61b5aa8d1ca67fc46cbe88b537b6a44", func := "bailiwick/bailiwicklaw10.HeldBack", spec := "heldBack", inPlace := ["slices.overlaps[bailiwick/api.Held]"], unfollowed := true, recurses := true, apart := false }
def HeldBackSaid : Prop := heldBackRow.holds Try.pinned (OpenSpec.ofChange heldBackSpec)

/-- ITS FALSE NEIGHBOUR: 'it returns false'. Refute it at one input. -/
def heldBackWrong : ChangeSpec := { name := "heldBack", fn := fun _ => fun
  | [d1, d2, d3] => { results := [.lit (.bool false)], args := [d1, d2, d3] }
  | _ => none }
def HeldBackWrongFalsely : Prop := heldBackRow.holds Try.pinned (OpenSpec.ofChange heldBackWrong)

/-- 'bailiwicklaw10.HeldGets': WHATEVER THE INPUT: true; the input reads as it did. -/
def heldGetsSpec : ChangeSpec := { name := "heldGets", fn := fun _ => fun
  | [d1, d2, d3] => { results := [.lit (.bool true)], args := [d1, d2, d3] }
  | _ => none }
def heldGetsRow : OpenClaim := { program := "ytbiofikijehlcaa", sum := "fa0ec43164ad927b38e6d2204e5e758ea61b5aa8d1ca67fc46cbe88b537b6a44", func := "bailiwick/bailiwicklaw10.HeldGets", spec := "heldGets", inPlace := ["slices.overlaps[bailiwick/api.Held]"], unfollowed := true, recurses := true, apart := false }
def HeldGetsSaid : Prop := heldGetsRow.holds Try.pinned (OpenSpec.ofChange heldGetsSpec)

/-- ITS FALSE NEIGHBOUR: 'it returns false'. Refute it at one input. -/
def heldGetsWrong : ChangeSpec := { name := "heldGets", fn := fun _ => fun
  | [d1, d2, d3] => { results := [.lit (.bool false)], args := [d1, d2, d3] }
  | _ => none }
def HeldGetsWrongFalsely : Prop := heldGetsRow.holds Try.pinned (OpenSpec.ofChange heldGetsWrong)

/- THE SECOND FORM. 'bulk': how many values and letters a reading holds, each counted each time it is reached (what is shared counts as often as it is met; a slice's spare places count too). A statement '..UptoSaid' is the law's where the arguments, and the package variables that the reading takes, are together of bulk at most 1048576: NARROWER than '..Said'. Prove '..Said' where nothing that the law and all that it calls make is longer than what came in: it says more and counts as full. Else prove '..UptoSaid'. A law counts once. -/
mutual
def uptoBulk {H : Type} : DataW H → Nat
  | .lit (.string bytes) => bytes.length + 1
  | .lit _ => 1
  | .nil => 1
  | .ptr d => uptoBulk d + 1
  | .slice elems spare => uptoBulkAll elems + uptoBulkAll spare + 1
  | .agg parts => uptoBulkAll parts + 1
  | .iface _ d => uptoBulk d + 1
  | .map entries => uptoBulkEntries entries + 1
  | .held _ => 1
def uptoBulkAll {H : Type} : List (DataW H) → Nat
  | [] => 0
  | d :: r => uptoBulk d + uptoBulkAll r
def uptoBulkEntries {H : Type} : List (Lit × DataW H) → Nat
  | [] => 0
  | x :: r => uptoBulkEntry x + uptoBulkEntries r
def uptoBulkEntry {H : Type} : Lit × DataW H → Nat
  | (.string bytes, d) => bytes.length + uptoBulk d + 1
  | (_, d) => uptoBulk d + 1
 end
def uptoSmall : (H : Type) → List (DataW H) → Bool := fun _ ds => decide (uptoBulkAll ds ≤ 1048576)
def OpenSpec.upto (s : _root_.Go.ChangeSpec) : _root_.Go.OpenSpec := { _root_.Go.OpenSpec.ofChange s with cond := some uptoSmall }

/-- 'bailiwicklaw10.HeldSpans', WHERE WHAT IT READS IS OF BULK AT MOST 1048576: true; the input reads as it did. -/
def heldSpansUptoRow : OpenClaim := { program := "ytbiofikijehlcaa", sum := "fa0ec43164ad927b38e6d2204e5e758ea61b5aa8d1ca67fc46cbe88b537b6a44", func := "bailiwick/bailiwicklaw10.HeldSpans", spec := "heldSpans", inPlace := ["slices.overlaps[bailiwick/api.Held]"], unfollowed := true, recurses := true, apart := false, narrowed := true }
def HeldSpansUptoSaid : Prop := heldSpansUptoRow.holds Try.pinned (OpenSpec.upto heldSpansSpec)

/-- 'bailiwicklaw10.HeldApart', WHERE WHAT IT READS IS OF BULK AT MOST 1048576: true; the input reads as it did. -/
def heldApartUptoRow : OpenClaim := { program := "ytbiofikijehlcaa", sum := "fa0ec43164ad927b38e6d2204e5e758ea61b5aa8d1ca67fc46cbe88b537b6a44", func := "bailiwick/bailiwicklaw10.HeldApart", spec := "heldApart", inPlace := ["slices.overlaps[bailiwick/api.Held]"], unfollowed := true, recurses := true, apart := false, narrowed := true }
def HeldApartUptoSaid : Prop := heldApartUptoRow.holds Try.pinned (OpenSpec.upto heldApartSpec)

/-- 'bailiwicklaw10.HeldBack', WHERE WHAT IT READS IS OF BULK AT MOST 1048576: true; the input reads as it did. -/
def heldBackUptoRow : OpenClaim := { program := "ytbiofikijehlcaa", sum := "fa0ec43164ad927b38e6d2204e5e758ea61b5aa8d1ca67fc46cbe88b537b6a44", func := "bailiwick/bailiwicklaw10.HeldBack", spec := "heldBack", inPlace := ["slices.overlaps[bailiwick/api.Held]"], unfollowed := true, recurses := true, apart := false, narrowed := true }
def HeldBackUptoSaid : Prop := heldBackUptoRow.holds Try.pinned (OpenSpec.upto heldBackSpec)

/-- 'bailiwicklaw10.HeldGets', WHERE WHAT IT READS IS OF BULK AT MOST 1048576: true; the input reads as it did. -/
def heldGetsUptoRow : OpenClaim := { program := "ytbiofikijehlcaa", sum := "fa0ec43164ad927b38e6d2204e5e758ea61b5aa8d1ca67fc46cbe88b537b6a44", func := "bailiwick/bailiwicklaw10.HeldGets", spec := "heldGets", inPlace := ["slices.overlaps[bailiwick/api.Held]"], unfollowed := true, recurses := true, apart := false, narrowed := true }
def HeldGetsUptoSaid : Prop := heldGetsUptoRow.holds Try.pinned (OpenSpec.upto heldGetsSpec)

end Rows
end Go.Proofs.Ytbiofikijehlcaa
