/-
  No cell of these rows narrows 'for every input' (looked for: loops, veiled, ifaces, maps, wideKeys, modest, calm, conditions, laid).
  DERIVED. THE GIVEN ROWS OF THIS SEAT. 3 by the template 'for every input the law returns true; each argument reads behind the call as it read before'; 0 by the template 'total and deterministic' (their statements: YtnlgnpdajblfnaaTotals.lean).
  GIVEN WITH THE SEED: the statements are not yours to turn. If you find one false, say at which input.
  Laid BY PROGRAM, IN A SANDBOX (cutbox-rows.mjs): the forced cells as the released guide's own fill.sh prints them over the translation fa3518917998601d… (all of the seat's roots in one cut). By AI agents, Wed Nov 11 2026. No macro, syntax, notation, axiom, sorry.
-/
import Derived.Test.YtnlgnpdajblfnaaChecked
import GoSem.Claim
import GoSem.ClaimJoined
import GoSem.ClaimMapViews
import Derived.JoinedTies
import Derived.KernelRfl
namespace Go.Proofs.Ytnlgnpdajblfnaa
/- THE CELL 'sum', in the pinned program and in every row, IS THE sha256 OF THE DUMP (.gsa) THAT YtnlgnpdajblfnaaProg.lean LOADS. Nothing in Lean hashes anything: it is a label: what it is worth is what the hold of that sum in a sandbox is worth. -/
noncomputable def Try.pinned : Pinned := { name := "ytnlgnpdajblfnaa", sum := "fa3518917998601de002484e6d9f1abc60892a5b75668cb66b0092b28589b15e", checked := Try.checked }
namespace Rows
def none {H : Type} : Left H := { results := [], args := [] }

/-- 'bailiwicklaw06.HealthRight': WHATEVER THE INPUT: true; the input reads as it did. -/
def healthRightSpec : ChangeSpec := { name := "healthRight", fn := fun _ => fun
  | [d1, d2, d3, d4] => { results := [.lit (.bool true)], args := [d1, d2, d3, d4] }
  | _ => none }
def healthRightRow : OpenClaim := { program := "ytnlgnpdajblfnaa", sum := "fa3518917998601de002484e6d9f1abc60892a5b75668cb66b0092b28589b15e", func := "bailiwick/bailiwicklaw06.HealthRight", spec := "healthRight", apart := false }
def HealthRightSaid : Prop := healthRightRow.holds Try.pinned (OpenSpec.ofChange healthRightSpec)

/-- ITS FALSE NEIGHBOUR: 'it returns false'. Refute it at one input. -/
def healthRightWrong : ChangeSpec := { name := "healthRight", fn := fun _ => fun
  | [d1, d2, d3, d4] => { results := [.lit (.bool false)], args := [d1, d2, d3, d4] }
  | _ => none }
def HealthRightWrongFalsely : Prop := healthRightRow.holds Try.pinned (OpenSpec.ofChange healthRightWrong)

/-- 'bailiwicklaw06.HealthWorse': WHATEVER THE INPUT: true; the input reads as it did. -/
def healthWorseSpec : ChangeSpec := { name := "healthWorse", fn := fun _ => fun
  | [d1, d2, d3, d4, d5] => { results := [.lit (.bool true)], args := [d1, d2, d3, d4, d5] }
  | _ => none }
def healthWorseRow : OpenClaim := { program := "ytnlgnpdajblfnaa", sum := "fa3518917998601de002484e6d9f1abc60892a5b75668cb66b0092b28589b15e", func := "bailiwick/bailiwicklaw06.HealthWorse", spec := "healthWorse", apart := false }
def HealthWorseSaid : Prop := healthWorseRow.holds Try.pinned (OpenSpec.ofChange healthWorseSpec)

/-- ITS FALSE NEIGHBOUR: 'it returns false'. Refute it at one input. -/
def healthWorseWrong : ChangeSpec := { name := "healthWorse", fn := fun _ => fun
  | [d1, d2, d3, d4, d5] => { results := [.lit (.bool false)], args := [d1, d2, d3, d4, d5] }
  | _ => none }
def HealthWorseWrongFalsely : Prop := healthWorseRow.holds Try.pinned (OpenSpec.ofChange healthWorseWrong)

/-- 'bailiwicklaw06.HealthAll': WHATEVER THE INPUT: true; the input reads as it did. -/
def healthAllSpec : ChangeSpec := { name := "healthAll", fn := fun _ => fun
  | [d] => { results := [.lit (.bool true)], args := [d] }
  | _ => none }
def healthAllRow : OpenClaim := { program := "ytnlgnpdajblfnaa", sum := "fa3518917998601de002484e6d9f1abc60892a5b75668cb66b0092b28589b15e", func := "bailiwick/bailiwicklaw06.HealthAll", spec := "healthAll", apart := false }
def HealthAllSaid : Prop := healthAllRow.holds Try.pinned (OpenSpec.ofChange healthAllSpec)

/-- ITS FALSE NEIGHBOUR: 'it returns false'. Refute it at one input. -/
def healthAllWrong : ChangeSpec := { name := "healthAll", fn := fun _ => fun
  | [d] => { results := [.lit (.bool false)], args := [d] }
  | _ => none }
def HealthAllWrongFalsely : Prop := healthAllRow.holds Try.pinned (OpenSpec.ofChange healthAllWrong)

/- THE SECOND FORM. 'bulk': how many values and letters a reading holds, each counted each time it is reached (what is shared counts as often as it is met; a slice's spare places count too). A statement '..UptoSaid' is the law's where the arguments, and the package variables that the reading takes, are together of bulk at most 1048576: NARROWER than '..Said'. Prove '..Said' where nothing that the law and all that it calls make is longer than what came in: it says more and counts as full. Else prove '..UptoSaid'. A law counts once. -/
mutual
def uptoBulk {H : Type} : DataW H → Nat
  | .lit (.string bytes) => bytes.length + 1
  | .lit _ => 1
  | .nil => 1
  | .ptr d => uptoBulk d + 1
  | .slice elems spare => uptoBulkAll elems + uptoBulkAll spare + 1
  | .agg parts => uptoBulkAll parts + 1
  | .iface _ d => uptoBulk d + 1
  | .map entries => uptoBulkEntries entries + 1
  | .held _ => 1
def uptoBulkAll {H : Type} : List (DataW H) → Nat
  | [] => 0
  | d :: r => uptoBulk d + uptoBulkAll r
def uptoBulkEntries {H : Type} : List (Lit × DataW H) → Nat
  | [] => 0
  | x :: r => uptoBulkEntry x + uptoBulkEntries r
def uptoBulkEntry {H : Type} : Lit × DataW H → Nat
  | (.string bytes, d) => bytes.length + uptoBulk d + 1
  | (_, d) => uptoBulk d + 1
 end
def uptoSmall : (H : Type) → List (DataW H) → Bool := fun _ ds => decide (uptoBulkAll ds ≤ 1048576)
def OpenSpec.upto (s : _root_.Go.ChangeSpec) : _root_.Go.OpenSpec := { _root_.Go.OpenSpec.ofChange s with cond := some uptoSmall }

/-- 'bailiwicklaw06.HealthRight', WHERE WHAT IT READS IS OF BULK AT MOST 1048576: true; the input reads as it did. -/
def healthRightUptoRow : OpenClaim := { program := "ytnlgnpdajblfnaa", sum := "fa3518917998601de002484e6d9f1abc60892a5b75668cb66b0092b28589b15e", func := "bailiwick/bailiwicklaw06.HealthRight", spec := "healthRight", apart := false, narrowed := true }
def HealthRightUptoSaid : Prop := healthRightUptoRow.holds Try.pinned (OpenSpec.upto healthRightSpec)

/-- 'bailiwicklaw06.HealthWorse', WHERE WHAT IT READS IS OF BULK AT MOST 1048576: true; the input reads as it did. -/
def healthWorseUptoRow : OpenClaim := { program := "ytnlgnpdajblfnaa", sum := "fa3518917998601de002484e6d9f1abc60892a5b75668cb66b0092b28589b15e", func := "bailiwick/bailiwicklaw06.HealthWorse", spec := "healthWorse", apart := false, narrowed := true }
def HealthWorseUptoSaid : Prop := healthWorseUptoRow.holds Try.pinned (OpenSpec.upto healthWorseSpec)

/-- 'bailiwicklaw06.HealthAll', WHERE WHAT IT READS IS OF BULK AT MOST 1048576: true; the input reads as it did. -/
def healthAllUptoRow : OpenClaim := { program := "ytnlgnpdajblfnaa", sum := "fa3518917998601de002484e6d9f1abc60892a5b75668cb66b0092b28589b15e", func := "bailiwick/bailiwicklaw06.HealthAll", spec := "healthAll", apart := false, narrowed := true }
def HealthAllUptoSaid : Prop := healthAllUptoRow.holds Try.pinned (OpenSpec.upto healthAllSpec)

end Rows
end Go.Proofs.Ytnlgnpdajblfnaa
