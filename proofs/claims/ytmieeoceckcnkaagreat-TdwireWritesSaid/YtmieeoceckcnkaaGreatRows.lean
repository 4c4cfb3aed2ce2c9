/-
  No cell of these rows narrows 'for every input' (looked for: loops, veiled, ifaces, maps, wideKeys, modest, calm, conditions, laid).
  DERIVED. THE GIVEN ROWS OF THIS SEAT. 3 by the template 'for every input the law returns true; each argument reads behind the call as it read before'; 0 by the template 'total and deterministic' (their statements: YtmieeoceckcnkaaGreatTotals.lean).
  GIVEN WITH THE SEED: the statements are not yours to turn. If you find one false, say at which input.
  Laid BY PROGRAM, IN A SANDBOX (cutbox-rows.mjs): the forced cells as the released guide's own fill.sh prints them over the translation 17356e486ec73a99… (all of the seat's roots in one cut). By AI agents, Wed Nov 11 2026. No macro, syntax, notation, axiom, sorry.
-/
import Derived.Test.YtmieeoceckcnkaaGreatChecked
import GoSem.Claim
import GoSem.ClaimJoined
import GoSem.ClaimMapViews
import Derived.JoinedTies
import Derived.KernelRfl
namespace Go.Proofs.YtmieeoceckcnkaaGreat
/- THE CELL 'sum', in the pinned program and in every row, IS THE sha256 OF THE DUMP (.gsa) THAT YtmieeoceckcnkaaGreatProg.lean LOADS. Nothing in Lean hashes anything: it is a label: what it is worth is what the hold of that sum in a sandbox is worth. -/
noncomputable def Tryz.pinned : Pinned := { name := "ytmieeoceckcnkaagreat", sum := "17356e486ec73a996c5094835516a2ec9ee4ed544601f8a5360f811104c29790", checked := Tryz.checked }
namespace Rows
def none {H : Type} : Left H := { results := [], args := [] }

/-- 'theodolitelaw23.TdwireWrites': WHATEVER THE INPUT: true; the input reads as it did. -/
def tdwireWritesSpec : ChangeSpec := { name := "tdwireWrites", fn := fun _ => fun
  | [d1, d2, d3, d4] => { results := [.lit (.bool true)], args := [d1, d2, d3, d4] }
  | _ => none }
def tdwireWritesRow : OpenClaim := { program := "ytmieeoceckcnkaagreat", sum := "17356e486ec73a996c5094835516a2ec9ee4ed544601f8a5360f811104c29790", func := "theodolite/theodolitelaw23.TdwireWrites", spec := "tdwireWrites", inPlace := ["math/bits.Add64"], unfollowed := true, recurses := true, named := ["math/bits.divideError", "math/bits.overflowError"], apart := false }
def TdwireWritesSaid : Prop := tdwireWritesRow.holds Tryz.pinned (OpenSpec.ofChange tdwireWritesSpec)

/-- ITS FALSE NEIGHBOUR: 'it returns false'. Refute it at one input. -/
def tdwireWritesWrong : ChangeSpec := { name := "tdwireWrites", fn := fun _ => fun
  | [d1, d2, d3, d4] => { results := [.lit (.bool false)], args := [d1, d2, d3, d4] }
  | _ => none }
def TdwireWritesWrongFalsely : Prop := tdwireWritesRow.holds Tryz.pinned (OpenSpec.ofChange tdwireWritesWrong)

/-- 'theodolitelaw23.TdwireAgain': WHATEVER THE INPUT: true; the input reads as it did. -/
def tdwireAgainSpec : ChangeSpec := { name := "tdwireAgain", fn := fun _ => fun
  | [d1, d2, d3, d4] => { results := [.lit (.bool true)], args := [d1, d2, d3, d4] }
  | _ => none }
def tdwireAgainRow : OpenClaim := { program := "ytmieeoceckcnkaagreat", sum := "17356e486ec73a996c5094835516a2ec9ee4ed544601f8a5360f811104c29790", func := "theodolite/theodolitelaw23.TdwireAgain", spec := "tdwireAgain", inPlace := ["math/bits.Add64"], unfollowed := true, recurses := true, named := ["math/bits.divideError", "math/bits.overflowError"], apart := false }
def TdwireAgainSaid : Prop := tdwireAgainRow.holds Tryz.pinned (OpenSpec.ofChange tdwireAgainSpec)

/-- ITS FALSE NEIGHBOUR: 'it returns false'. Refute it at one input. -/
def tdwireAgainWrong : ChangeSpec := { name := "tdwireAgain", fn := fun _ => fun
  | [d1, d2, d3, d4] => { results := [.lit (.bool false)], args := [d1, d2, d3, d4] }
  | _ => none }
def TdwireAgainWrongFalsely : Prop := tdwireAgainRow.holds Tryz.pinned (OpenSpec.ofChange tdwireAgainWrong)

/-- 'theodolitelaw23.TdwireJoins': WHATEVER THE INPUT: true; the input reads as it did. -/
def tdwireJoinsSpec : ChangeSpec := { name := "tdwireJoins", fn := fun _ => fun
  | [d1, d2, d3, d4, d5, d6] => { results := [.lit (.bool true)], args := [d1, d2, d3, d4, d5, d6] }
  | _ => none }
def tdwireJoinsRow : OpenClaim := { program := "ytmieeoceckcnkaagreat", sum := "17356e486ec73a996c5094835516a2ec9ee4ed544601f8a5360f811104c29790", func := "theodolite/theodolitelaw23.TdwireJoins", spec := "tdwireJoins", inPlace := ["math/bits.Add64"], unfollowed := true, recurses := true, named := ["math/bits.divideError", "math/bits.overflowError"], apart := false }
def TdwireJoinsSaid : Prop := tdwireJoinsRow.holds Tryz.pinned (OpenSpec.ofChange tdwireJoinsSpec)

/-- ITS FALSE NEIGHBOUR: 'it returns false'. Refute it at one input. -/
def tdwireJoinsWrong : ChangeSpec := { name := "tdwireJoins", fn := fun _ => fun
  | [d1, d2, d3, d4, d5, d6] => { results := [.lit (.bool false)], args := [d1, d2, d3, d4, d5, d6] }
  | _ => none }
def TdwireJoinsWrongFalsely : Prop := tdwireJoinsRow.holds Tryz.pinned (OpenSpec.ofChange tdwireJoinsWrong)

/- THE SECOND FORM. 'bulk': how many values and letters a reading holds, each counted each time it is reached (what is shared counts as often as it is met; a slice's spare places count too). A statement '..UptoSaid' is the law's where the arguments, and the package variables that the reading takes, are together of bulk at most 1048576: NARROWER than '..Said'. Prove '..Said' where nothing that the law and all that it calls make is longer than what came in: it says more and counts as full. Else prove '..UptoSaid'. A law counts once. -/
mutual
def uptoBulk {H : Type} : DataW H → Nat
  | .lit (.string bytes) => bytes.length + 1
  | .lit _ => 1
  | .nil => 1
  | .ptr d => uptoBulk d + 1
  | .slice elems spare => uptoBulkAll elems + uptoBulkAll spare + 1
  | .agg parts => uptoBulkAll parts + 1
  | .iface _ d => uptoBulk d + 1
  | .map entries => uptoBulkEntries entries + 1
  | .held _ => 1
def uptoBulkAll {H : Type} : List (DataW H) → Nat
  | [] => 0
  | d :: r => uptoBulk d + uptoBulkAll r
def uptoBulkEntries {H : Type} : List (Lit × DataW H) → Nat
  | [] => 0
  | x :: r => uptoBulkEntry x + uptoBulkEntries r
def uptoBulkEntry {H : Type} : Lit × DataW H → Nat
  | (.string bytes, d) => bytes.length + uptoBulk d + 1
  | (_, d) => uptoBulk d + 1
 end
def uptoSmall : (H : Type) → List (DataW H) → Bool := fun _ ds => decide (uptoBulkAll ds ≤ 1048576)
def OpenSpec.upto (s : _root_.Go.ChangeSpec) : _root_.Go.OpenSpec := { _root_.Go.OpenSpec.ofChange s with cond := some uptoSmall }

/-- 'theodolitelaw23.TdwireWrites', WHERE WHAT IT READS IS OF BULK AT MOST 1048576: true; the input reads as it did. -/
def tdwireWritesUptoRow : OpenClaim := { program := "ytmieeoceckcnkaagreat", sum := "17356e486ec73a996c5094835516a2ec9ee4ed544601f8a5360f811104c29790", func := "theodolite/theodolitelaw23.TdwireWrites", spec := "tdwireWrites", inPlace := ["math/bits.Add64"], unfollowed := true, recurses := true, named := ["math/bits.divideError", "math/bits.overflowError"], apart := false, narrowed := true }
def TdwireWritesUptoSaid : Prop := tdwireWritesUptoRow.holds Tryz.pinned (OpenSpec.upto tdwireWritesSpec)

/-- 'theodolitelaw23.TdwireAgain', WHERE WHAT IT READS IS OF BULK AT MOST 1048576: true; the input reads as it did. -/
def tdwireAgainUptoRow : OpenClaim := { program := "ytmieeoceckcnkaagreat", sum := "17356e486ec73a996c5094835516a2ec9ee4ed544601f8a5360f811104c29790", func := "theodolite/theodolitelaw23.TdwireAgain", spec := "tdwireAgain", inPlace := ["math/bits.Add64"], unfollowed := true, recurses := true, named := ["math/bits.divideError", "math/bits.overflowError"], apart := false, narrowed := true }
def TdwireAgainUptoSaid : Prop := tdwireAgainUptoRow.holds Tryz.pinned (OpenSpec.upto tdwireAgainSpec)

/-- 'theodolitelaw23.TdwireJoins', WHERE WHAT IT READS IS OF BULK AT MOST 1048576: true; the input reads as it did. -/
def tdwireJoinsUptoRow : OpenClaim := { program := "ytmieeoceckcnkaagreat", sum := "17356e486ec73a996c5094835516a2ec9ee4ed544601f8a5360f811104c29790", func := "theodolite/theodolitelaw23.TdwireJoins", spec := "tdwireJoins", inPlace := ["math/bits.Add64"], unfollowed := true, recurses := true, named := ["math/bits.divideError", "math/bits.overflowError"], apart := false, narrowed := true }
def TdwireJoinsUptoSaid : Prop := tdwireJoinsUptoRow.holds Tryz.pinned (OpenSpec.upto tdwireJoinsSpec)

end Rows
end Go.Proofs.YtmieeoceckcnkaaGreat
