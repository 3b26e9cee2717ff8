/-
  No cell of these rows narrows 'for every input' (looked for: loops, veiled, ifaces, maps, wideKeys, modest, calm, conditions, laid).
  DERIVED. THE GIVEN ROWS OF THIS SEAT. 3 by the template 'for every input the law returns true; each argument reads behind the call as it read before'; 0 by the template 'total and deterministic' (their statements: YtglboolijhekkaaTotals.lean).
  GIVEN WITH THE SEED: the statements are not yours to turn. If you find one false, say at which input.
  Laid BY PROGRAM, IN A SANDBOX (cutbox-rows.mjs): the forced cells as the released guide's own fill.sh prints them over the translation 188018d7fcf757be… (all of the seat's roots in one cut). By AI agents, Wed Nov 11 2026. No macro, syntax, notation, axiom, sorry.
-/
import Derived.Test.YtglboolijhekkaaChecked
import GoSem.Claim
import GoSem.ClaimJoined
import GoSem.ClaimMapViews
import Derived.JoinedTies
import Derived.KernelRfl
namespace Go.Proofs.Ytglboolijhekkaa
/- THE CELL 'sum', in the pinned program and in every row, IS THE sha256 OF THE DUMP (.gsa) THAT YtglboolijhekkaaProg.lean LOADS. Nothing in Lean hashes anything: it is a label: what it is worth is what the hold of that sum in a sandbox is worth. -/
noncomputable def Try.pinned : Pinned := { name := "ytglboolijhekkaa", sum := "188018d7fcf757be460f4e68b98fcdee39b592acbae50dd440fcd2347fac4a88", checked := Try.checked }
namespace Rows
def none {H : Type} : Left H := { results := [], args := [] }

/-- 'bailiwicklaw09.MatchRight': WHATEVER THE INPUT: true; the input reads as it did. -/
def matchRightSpec : ChangeSpec := { name := "matchRight", fn := fun _ => fun
  | [d1, d2, d3, d4] => { results := [.lit (.bool true)], args := [d1, d2, d3, d4] }
  | _ => none }
def matchRightRow : OpenClaim := { program := "ytglboolijhekkaa", sum := "188018d7fcf757be460f4e68b98fcdee39b592acbae50dd440fcd2347fac4a88", func := "bailiwick/bailiwicklaw09.MatchRight", spec := "matchRight", unfollowed := true, recurses := true, apart := false }
def MatchRightSaid : Prop := matchRightRow.holds Try.pinned (OpenSpec.ofChange matchRightSpec)

/-- ITS FALSE NEIGHBOUR: 'it returns false'. Refute it at one input. -/
def matchRightWrong : ChangeSpec := { name := "matchRight", fn := fun _ => fun
  | [d1, d2, d3, d4] => { results := [.lit (.bool false)], args := [d1, d2, d3, d4] }
  | _ => none }
def MatchRightWrongFalsely : Prop := matchRightRow.holds Try.pinned (OpenSpec.ofChange matchRightWrong)

/-- 'bailiwicklaw09.MatchTags': WHATEVER THE INPUT: true; the input reads as it did. -/
def matchTagsSpec : ChangeSpec := { name := "matchTags", fn := fun _ => fun
  | [d1, d2, d3] => { results := [.lit (.bool true)], args := [d1, d2, d3] }
  | _ => none }
def matchTagsRow : OpenClaim := { program := "ytglboolijhekkaa", sum := "188018d7fcf757be460f4e68b98fcdee39b592acbae50dd440fcd2347fac4a88", func := "bailiwick/bailiwicklaw09.MatchTags", spec := "matchTags", unfollowed := true, recurses := true, apart := false }
def MatchTagsSaid : Prop := matchTagsRow.holds Try.pinned (OpenSpec.ofChange matchTagsSpec)

/-- ITS FALSE NEIGHBOUR: 'it returns false'. Refute it at one input. -/
def matchTagsWrong : ChangeSpec := { name := "matchTags", fn := fun _ => fun
  | [d1, d2, d3] => { results := [.lit (.bool false)], args := [d1, d2, d3] }
  | _ => none }
def MatchTagsWrongFalsely : Prop := matchTagsRow.holds Try.pinned (OpenSpec.ofChange matchTagsWrong)

/-- 'bailiwicklaw09.MatchWhole': WHATEVER THE INPUT: true; the input reads as it did. -/
def matchWholeSpec : ChangeSpec := { name := "matchWhole", fn := fun _ => fun
  | [d1, d2, d3] => { results := [.lit (.bool true)], args := [d1, d2, d3] }
  | _ => none }
def matchWholeRow : OpenClaim := { program := "ytglboolijhekkaa", sum := "188018d7fcf757be460f4e68b98fcdee39b592acbae50dd440fcd2347fac4a88", func := "bailiwick/bailiwicklaw09.MatchWhole", spec := "matchWhole", unfollowed := true, recurses := true, apart := false }
def MatchWholeSaid : Prop := matchWholeRow.holds Try.pinned (OpenSpec.ofChange matchWholeSpec)

/-- ITS FALSE NEIGHBOUR: 'it returns false'. Refute it at one input. -/
def matchWholeWrong : ChangeSpec := { name := "matchWhole", fn := fun _ => fun
  | [d1, d2, d3] => { results := [.lit (.bool false)], args := [d1, d2, d3] }
  | _ => none }
def MatchWholeWrongFalsely : Prop := matchWholeRow.holds Try.pinned (OpenSpec.ofChange matchWholeWrong)

/- THE SECOND FORM. 'bulk': how many values and letters a reading holds, each counted each time it is reached (what is shared counts as often as it is met; a slice's spare places count too). A statement '..UptoSaid' is the law's where the arguments, and the package variables that the reading takes, are together of bulk at most 1048576: NARROWER than '..Said'. Prove '..Said' where nothing that the law and all that it calls make is longer than what came in: it says more and counts as full. Else prove '..UptoSaid'. A law counts once. -/
mutual
def uptoBulk {H : Type} : DataW H → Nat
  | .lit (.string bytes) => bytes.length + 1
  | .lit _ => 1
  | .nil => 1
  | .ptr d => uptoBulk d + 1
  | .slice elems spare => uptoBulkAll elems + uptoBulkAll spare + 1
  | .agg parts => uptoBulkAll parts + 1
  | .iface _ d => uptoBulk d + 1
  | .map entries => uptoBulkEntries entries + 1
  | .held _ => 1
def uptoBulkAll {H : Type} : List (DataW H) → Nat
  | [] => 0
  | d :: r => uptoBulk d + uptoBulkAll r
def uptoBulkEntries {H : Type} : List (Lit × DataW H) → Nat
  | [] => 0
  | x :: r => uptoBulkEntry x + uptoBulkEntries r
def uptoBulkEntry {H : Type} : Lit × DataW H → Nat
  | (.string bytes, d) => bytes.length + uptoBulk d + 1
  | (_, d) => uptoBulk d + 1
 end
def uptoSmall : (H : Type) → List (DataW H) → Bool := fun _ ds => decide (uptoBulkAll ds ≤ 1048576)
def OpenSpec.upto (s : _root_.Go.ChangeSpec) : _root_.Go.OpenSpec := { _root_.Go.OpenSpec.ofChange s with cond := some uptoSmall }

/-- 'bailiwicklaw09.MatchRight', WHERE WHAT IT READS IS OF BULK AT MOST 1048576: true; the input reads as it did. -/
def matchRightUptoRow : OpenClaim := { program := "ytglboolijhekkaa", sum := "188018d7fcf757be460f4e68b98fcdee39b592acbae50dd440fcd2347fac4a88", func := "bailiwick/bailiwicklaw09.MatchRight", spec := "matchRight", unfollowed := true, recurses := true, apart := false, narrowed := true }
def MatchRightUptoSaid : Prop := matchRightUptoRow.holds Try.pinned (OpenSpec.upto matchRightSpec)

/-- 'bailiwicklaw09.MatchTags', WHERE WHAT IT READS IS OF BULK AT MOST 1048576: true; the input reads as it did. -/
def matchTagsUptoRow : OpenClaim := { program := "ytglboolijhekkaa", sum := "188018d7fcf757be460f4e68b98fcdee39b592acbae50dd440fcd2347fac4a88", func := "bailiwick/bailiwicklaw09.MatchTags", spec := "matchTags", unfollowed := true, recurses := true, apart := false, narrowed := true }
def MatchTagsUptoSaid : Prop := matchTagsUptoRow.holds Try.pinned (OpenSpec.upto matchTagsSpec)

/-- 'bailiwicklaw09.MatchWhole', WHERE WHAT IT READS IS OF BULK AT MOST 1048576: true; the input reads as it did. -/
def matchWholeUptoRow : OpenClaim := { program := "ytglboolijhekkaa", sum := "188018d7fcf757be460f4e68b98fcdee39b592acbae50dd440fcd2347fac4a88", func := "bailiwick/bailiwicklaw09.MatchWhole", spec := "matchWhole", unfollowed := true, recurses := true, apart := false, narrowed := true }
def MatchWholeUptoSaid : Prop := matchWholeUptoRow.holds Try.pinned (OpenSpec.upto matchWholeSpec)

end Rows
end Go.Proofs.Ytglboolijhekkaa
