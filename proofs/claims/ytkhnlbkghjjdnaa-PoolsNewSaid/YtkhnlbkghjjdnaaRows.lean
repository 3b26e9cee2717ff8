/-
  No cell of these rows narrows 'for every input' (looked for: loops, veiled, ifaces, maps, wideKeys, modest, calm, conditions, laid).
  DERIVED. THE GIVEN ROWS OF THIS SEAT. 6 by the template 'for every input the law returns true; each argument reads behind the call as it read before'; 0 by the template 'total and deterministic' (their statements: YtkhnlbkghjjdnaaTotals.lean).
  GIVEN WITH THE SEED: the statements are not yours to turn. If you find one false, say at which input.
  Laid BY PROGRAM, IN A SANDBOX (cutbox-rows.mjs): the forced cells as the released guide's own fill.sh prints them over the translation a81a1007fbdbb4ed… (all of the seat's roots in one cut). By AI agents, Wed Nov 11 2026. No macro, syntax, notation, axiom, sorry.
-/
import Derived.Test.YtkhnlbkghjjdnaaChecked
import GoSem.Claim
import GoSem.ClaimJoined
import GoSem.ClaimMapViews
import Derived.JoinedTies
import Derived.KernelRfl
namespace Go.Proofs.Ytkhnlbkghjjdnaa
/- THE CELL 'sum', in the pinned program and in every row, IS THE sha256 OF THE DUMP (.gsa) THAT YtkhnlbkghjjdnaaProg.lean LOADS. Nothing in Lean hashes anything: it is a label: what it is worth is what the hold of that sum in a sandbox is worth. -/
noncomputable def Try.pinned : Pinned := { name := "ytkhnlbkghjjdnaa", sum := "a81a1007fbdbb4ed9f488199d8c4c4a8ca31ad3496dd805aec24b29744645db7", checked := Try.checked }
namespace Rows
def none {H : Type} : Left H := { results := [], args := [] }

/-- 'bailiwicklaw04.PoolsRight': WHATEVER THE INPUT: true; the input reads as it did. -/
def poolsRightSpec : ChangeSpec := { name := "poolsRight", fn := fun _ => fun
  | [d1, d2, d3, d4] => { results := [.lit (.bool true)], args := [d1, d2, d3, d4] }
  | _ => none }
def poolsRightRow : OpenClaim := { program := "ytkhnlbkghjjdnaa", sum := "a81a1007fbdbb4ed9f488199d8c4c4a8ca31ad3496dd805aec24b29744645db7", func := "bailiwick/bailiwicklaw04.PoolsRight", spec := "poolsRight", inPlace := ["slices.overlaps[bailiwick/api.Step]"], unfollowed := true, recurses := true, apart := false }
def PoolsRightSaid : Prop := poolsRightRow.holds Try.pinned (OpenSpec.ofChange poolsRightSpec)

/-- ITS FALSE NEIGHBOUR: 'it returns false'. Refute it at one input. -/
def poolsRightWrong : ChangeSpec := { name := "poolsRight", fn := fun _ => fun
  | [d1, d2, d3, d4] => { results := [.lit (.bool false)], args := [d1, d2, d3, d4] }
  | _ => none }
def PoolsRightWrongFalsely : Prop := poolsRightRow.holds Try.pinned (OpenSpec.ofChange poolsRightWrong)

/-- 'bailiwicklaw04.PoolsNew': WHATEVER THE INPUT: true; the input reads as it did. -/
def poolsNewSpec : ChangeSpec := { name := "poolsNew", fn := fun _ => fun
  | [d1, d2] => { results := [.lit (.bool true)], args := [d1, d2] }
  | _ => none }
def poolsNewRow : OpenClaim := { program := "ytkhnlbkghjjdnaa", sum := "a81a1007fbdbb4ed9f488199d8c4c4a8ca31ad3496dd805aec24b29744645db7", func := "bailiwick/bailiwicklaw04.PoolsNew", spec := "poolsNew", inPlace := ["slices.overlaps[bailiwick/api.Step]"], unfollowed := true, recurses := true, apart := false }
def PoolsNewSaid : Prop := poolsNewRow.holds Try.pinned (OpenSpec.ofChange poolsNewSpec)

/-- ITS FALSE NEIGHBOUR: 'it returns false'. Refute it at one input. -/
def poolsNewWrong : ChangeSpec := { name := "poolsNew", fn := fun _ => fun
  | [d1, d2] => { results := [.lit (.bool false)], args := [d1, d2] }
  | _ => none }
def PoolsNewWrongFalsely : Prop := poolsNewRow.holds Try.pinned (OpenSpec.ofChange poolsNewWrong)

/-- 'bailiwicklaw04.PoolsSeeks': WHATEVER THE INPUT: true; the input reads as it did. -/
def poolsSeeksSpec : ChangeSpec := { name := "poolsSeeks", fn := fun _ => fun
  | [d1, d2, d3, d4] => { results := [.lit (.bool true)], args := [d1, d2, d3, d4] }
  | _ => none }
def poolsSeeksRow : OpenClaim := { program := "ytkhnlbkghjjdnaa", sum := "a81a1007fbdbb4ed9f488199d8c4c4a8ca31ad3496dd805aec24b29744645db7", func := "bailiwick/bailiwicklaw04.PoolsSeeks", spec := "poolsSeeks", inPlace := ["slices.overlaps[bailiwick/api.Step]"], unfollowed := true, recurses := true, apart := false }
def PoolsSeeksSaid : Prop := poolsSeeksRow.holds Try.pinned (OpenSpec.ofChange poolsSeeksSpec)

/-- ITS FALSE NEIGHBOUR: 'it returns false'. Refute it at one input. -/
def poolsSeeksWrong : ChangeSpec := { name := "poolsSeeks", fn := fun _ => fun
  | [d1, d2, d3, d4] => { results := [.lit (.bool false)], args := [d1, d2, d3, d4] }
  | _ => none }
def PoolsSeeksWrongFalsely : Prop := poolsSeeksRow.holds Try.pinned (OpenSpec.ofChange poolsSeeksWrong)

/-- 'bailiwicklaw04.PoolsFirst': WHATEVER THE INPUT: true; the input reads as it did. -/
def poolsFirstSpec : ChangeSpec := { name := "poolsFirst", fn := fun _ => fun
  | [d1, d2, d3, d4, d5] => { results := [.lit (.bool true)], args := [d1, d2, d3, d4, d5] }
  | _ => none }
def poolsFirstRow : OpenClaim := { program := "ytkhnlbkghjjdnaa", sum := "a81a1007fbdbb4ed9f488199d8c4c4a8ca31ad3496dd805aec24b29744645db7", func := "bailiwick/bailiwicklaw04.PoolsFirst", spec := "poolsFirst", inPlace := ["slices.overlaps[bailiwick/api.Step]"], unfollowed := true, recurses := true, apart := false }
def PoolsFirstSaid : Prop := poolsFirstRow.holds Try.pinned (OpenSpec.ofChange poolsFirstSpec)

/-- ITS FALSE NEIGHBOUR: 'it returns false'. Refute it at one input. -/
def poolsFirstWrong : ChangeSpec := { name := "poolsFirst", fn := fun _ => fun
  | [d1, d2, d3, d4, d5] => { results := [.lit (.bool false)], args := [d1, d2, d3, d4, d5] }
  | _ => none }
def PoolsFirstWrongFalsely : Prop := poolsFirstRow.holds Try.pinned (OpenSpec.ofChange poolsFirstWrong)

/-- 'bailiwicklaw04.PoolsOne': WHATEVER THE INPUT: true; the input reads as it did. -/
def poolsOneSpec : ChangeSpec := { name := "poolsOne", fn := fun _ => fun
  | [d1, d2, d3, d4] => { results := [.lit (.bool true)], args := [d1, d2, d3, d4] }
  | _ => none }
def poolsOneRow : OpenClaim := { program := "ytkhnlbkghjjdnaa", sum := "a81a1007fbdbb4ed9f488199d8c4c4a8ca31ad3496dd805aec24b29744645db7", func := "bailiwick/bailiwicklaw04.PoolsOne", spec := "poolsOne", inPlace := ["slices.overlaps[bailiwick/api.Step]"], unfollowed := true, recurses := true, apart := false }
def PoolsOneSaid : Prop := poolsOneRow.holds Try.pinned (OpenSpec.ofChange poolsOneSpec)

/-- ITS FALSE NEIGHBOUR: 'it returns false'. Refute it at one input. -/
def poolsOneWrong : ChangeSpec := { name := "poolsOne", fn := fun _ => fun
  | [d1, d2, d3, d4] => { results := [.lit (.bool false)], args := [d1, d2, d3, d4] }
  | _ => none }
def PoolsOneWrongFalsely : Prop := poolsOneRow.holds Try.pinned (OpenSpec.ofChange poolsOneWrong)

/-- 'bailiwicklaw04.PoolsBack': WHATEVER THE INPUT: true; the input reads as it did. -/
def poolsBackSpec : ChangeSpec := { name := "poolsBack", fn := fun _ => fun
  | [d1, d2, d3, d4, d5] => { results := [.lit (.bool true)], args := [d1, d2, d3, d4, d5] }
  | _ => none }
def poolsBackRow : OpenClaim := { program := "ytkhnlbkghjjdnaa", sum := "a81a1007fbdbb4ed9f488199d8c4c4a8ca31ad3496dd805aec24b29744645db7", func := "bailiwick/bailiwicklaw04.PoolsBack", spec := "poolsBack", inPlace := ["slices.overlaps[bailiwick/api.Step]"], unfollowed := true, recurses := true, apart := false }
def PoolsBackSaid : Prop := poolsBackRow.holds Try.pinned (OpenSpec.ofChange poolsBackSpec)

/-- ITS FALSE NEIGHBOUR: 'it returns false'. Refute it at one input. -/
def poolsBackWrong : ChangeSpec := { name := "poolsBack", fn := fun _ => fun
  | [d1, d2, d3, d4, d5] => { results := [.lit (.bool false)], args := [d1, d2, d3, d4, d5] }
  | _ => none }
def PoolsBackWrongFalsely : Prop := poolsBackRow.holds Try.pinned (OpenSpec.ofChange poolsBackWrong)

/- THE SECOND FORM. 'bulk': how many values and letters a reading holds, each counted each time it is reached (what is shared counts as often as it is met; a slice's spare places count too). A statement '..UptoSaid' is the law's where the arguments, and the package variables that the reading takes, are together of bulk at most 1048576: NARROWER than '..Said'. Prove '..Said' where nothing that the law and all that it calls make is longer than what came in: it says more and counts as full. Else prove '..UptoSaid'. A law counts once. -/
mutual
def uptoBulk {H : Type} : DataW H → Nat
  | .lit (.string bytes) => bytes.length + 1
  | .lit _ => 1
  | .nil => 1
  | .ptr d => uptoBulk d + 1
  | .slice elems spare => uptoBulkAll elems + uptoBulkAll spare + 1
  | .agg parts => uptoBulkAll parts + 1
  | .iface _ d => uptoBulk d + 1
  | .map entries => uptoBulkEntries entries + 1
  | .held _ => 1
def uptoBulkAll {H : Type} : List (DataW H) → Nat
  | [] => 0
  | d :: r => uptoBulk d + uptoBulkAll r
def uptoBulkEntries {H : Type} : List (Lit × DataW H) → Nat
  | [] => 0
  | x :: r => uptoBulkEntry x + uptoBulkEntries r
def uptoBulkEntry {H : Type} : Lit × DataW H → Nat
  | (.string bytes, d) => bytes.length + uptoBulk d + 1
  | (_, d) => uptoBulk d + 1
 end
def uptoSmall : (H : Type) → List (DataW H) → Bool := fun _ ds => decide (uptoBulkAll ds ≤ 1048576)
def OpenSpec.upto (s : _root_.Go.ChangeSpec) : _root_.Go.OpenSpec := { _root_.Go.OpenSpec.ofChange s with cond := some uptoSmall }

/-- 'bailiwicklaw04.PoolsRight', WHERE WHAT IT READS IS OF BULK AT MOST 1048576: true; the input reads as it did. -/
def poolsRightUptoRow : OpenClaim := { program := "ytkhnlbkghjjdnaa", sum := "a81a1007fbdbb4ed9f488199d8c4c4a8ca31ad3496dd805aec24b29744645db7", func := "bailiwick/bailiwicklaw04.PoolsRight", spec := "poolsRight", inPlace := ["slices.overlaps[bailiwick/api.Step]"], unfollowed := true, recurses := true, apart := false, narrowed := true }
def PoolsRightUptoSaid : Prop := poolsRightUptoRow.holds Try.pinned (OpenSpec.upto poolsRightSpec)

/-- 'bailiwicklaw04.PoolsNew', WHERE WHAT IT READS IS OF BULK AT MOST 1048576: true; the input reads as it did. -/
def poolsNewUptoRow : OpenClaim := { program := "ytkhnlbkghjjdnaa", sum := "a81a1007fbdbb4ed9f488199d8c4c4a8ca31ad3496dd805aec24b29744645db7", func := "bailiwick/bailiwicklaw04.PoolsNew", spec := "poolsNew", inPlace := ["slices.overlaps[bailiwick/api.Step]"], unfollowed := true, recurses := true, apart := false, narrowed := true }
def PoolsNewUptoSaid : Prop := poolsNewUptoRow.holds Try.pinned (OpenSpec.upto poolsNewSpec)

/-- 'bailiwicklaw04.PoolsSeeks', WHERE WHAT IT READS IS OF BULK AT MOST 1048576: true; the input reads as it did. -/
def poolsSeeksUptoRow : OpenClaim := { program := "ytkhnlbkghjjdnaa", sum := "a81a1007fbdbb4ed9f488199d8c4c4a8ca31ad3496dd805aec24b29744645db7", func := "bailiwick/bailiwicklaw04.PoolsSeeks", spec := "poolsSeeks", inPlace := ["slices.overlaps[bailiwick/api.Step]"], unfollowed := true, recurses := true, apart := false, narrowed := true }
def PoolsSeeksUptoSaid : Prop := poolsSeeksUptoRow.holds Try.pinned (OpenSpec.upto poolsSeeksSpec)

/-- 'bailiwicklaw04.PoolsFirst', WHERE WHAT IT READS IS OF BULK AT MOST 1048576: true; the input reads as it did. -/
def poolsFirstUptoRow : OpenClaim := { program := "ytkhnlbkghjjdnaa", sum := "a81a1007fbdbb4ed9f488199d8c4c4a8ca31ad3496dd805aec24b29744645db7", func := "bailiwick/bailiwicklaw04.PoolsFirst", spec := "poolsFirst", inPlace := ["slices.overlaps[bailiwick/api.Step]"], unfollowed := true, recurses := true, apart := false, narrowed := true }
def PoolsFirstUptoSaid : Prop := poolsFirstUptoRow.holds Try.pinned (OpenSpec.upto poolsFirstSpec)

/-- 'bailiwicklaw04.PoolsOne', WHERE WHAT IT READS IS OF BULK AT MOST 1048576: true; the input reads as it did. -/
def poolsOneUptoRow : OpenClaim := { program := "ytkhnlbkghjjdnaa", sum := "a81a1007fbdbb4ed9f488199d8c4c4a8ca31ad3496dd805aec24b29744645db7", func := "bailiwick/bailiwicklaw04.PoolsOne", spec := "poolsOne", inPlace := ["slices.overlaps[bailiwick/api.Step]"], unfollowed := true, recurses := true, apart := false, narrowed := true }
def PoolsOneUptoSaid : Prop := poolsOneUptoRow.holds Try.pinned (OpenSpec.upto poolsOneSpec)

/-- 'bailiwicklaw04.PoolsBack', WHERE WHAT IT READS IS OF BULK AT MOST 1048576: true; the input reads as it did. -/
def poolsBackUptoRow : OpenClaim := { program := "ytkhnlbkghjjdnaa", sum := "a81a1007fbdbb4ed9f488199d8c4c4a8ca31ad3496dd805aec24b29744645db7", func := "bailiwick/bailiwicklaw04.PoolsBack", spec := "poolsBack", inPlace := ["slices.overlaps[bailiwick/api.Step]"], unfollowed := true, recurses := true, apart := false, narrowed := true }
def PoolsBackUptoSaid : Prop := poolsBackUptoRow.holds Try.pinned (OpenSpec.upto poolsBackSpec)

end Rows
end Go.Proofs.Ytkhnlbkghjjdnaa
