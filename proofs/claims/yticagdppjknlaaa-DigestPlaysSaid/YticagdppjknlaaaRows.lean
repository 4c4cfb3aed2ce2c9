/-
  No cell of these rows narrows 'for every input' (looked for: loops, veiled, ifaces, maps, wideKeys, modest, calm, conditions, laid).
  DERIVED. THE GIVEN ROWS OF THIS SEAT. 9 by the template 'for every input the law returns true; each argument reads behind the call as it read before'; 0 by the template 'total and deterministic' (their statements: YticagdppjknlaaaTotals.lean).
  GIVEN WITH THE SEED: the statements are not yours to turn. If you find one false, say at which input.
  Laid BY PROGRAM, IN A SANDBOX (cutbox-rows.mjs): the forced cells as the released guide's own fill.sh prints them over the translation d9a37a8ade5009bf… (all of the seat's roots in one cut). By AI agents, Wed Nov 11 2026. No macro, syntax, notation, axiom, sorry.
-/
import Derived.Test.YticagdppjknlaaaChecked
import GoSem.Claim
import GoSem.ClaimJoined
import GoSem.ClaimMapViews
import Derived.JoinedTies
import Derived.KernelRfl
namespace Go.Proofs.Yticagdppjknlaaa
/- THE CELL 'sum', in the pinned program and in every row, IS THE sha256 OF THE DUMP (.gsa) THAT YticagdppjknlaaaProg.lean LOADS. Nothing in Lean hashes anything: it is a label: what it is worth is what the hold of that sum in a sandbox is worth. -/
noncomputable def Try.pinned : Pinned := { name := "yticagdppjknlaaa", sum := "d9a37a8ade5009bf2615c0095e262c413432b624f87b7e488db9930928ee31ab", checked := Try.checked }
namespace Rows
def none {H : Type} : Left H := { results := [], args := [] }

/-- 'theodolitelaw22.DigestPlays': WHATEVER THE INPUT: true; the input reads as it did. -/
def digestPlaysSpec : ChangeSpec := { name := "digestPlays", fn := fun _ => fun
  | [d1, d2] => { results := [.lit (.bool true)], args := [d1, d2] }
  | _ => none }
def digestPlaysRow : OpenClaim := { program := "yticagdppjknlaaa", sum := "d9a37a8ade5009bf2615c0095e262c413432b624f87b7e488db9930928ee31ab", func := "theodolite/theodolitelaw22.DigestPlays", spec := "digestPlays", inPlace := ["math/bits.Add64"], unfollowed := true, recurses := true, named := ["math/bits.divideError", "math/bits.overflowError"], apart := false }
def DigestPlaysSaid : Prop := digestPlaysRow.holds Try.pinned (OpenSpec.ofChange digestPlaysSpec)

/-- ITS FALSE NEIGHBOUR: 'it returns false'. Refute it at one input. -/
def digestPlaysWrong : ChangeSpec := { name := "digestPlays", fn := fun _ => fun
  | [d1, d2] => { results := [.lit (.bool false)], args := [d1, d2] }
  | _ => none }
def DigestPlaysWrongFalsely : Prop := digestPlaysRow.holds Try.pinned (OpenSpec.ofChange digestPlaysWrong)

/-- 'theodolitelaw22.DigestMakes': WHATEVER THE INPUT: true; the input reads as it did. -/
def digestMakesSpec : ChangeSpec := { name := "digestMakes", fn := fun _ => fun
  | [d] => { results := [.lit (.bool true)], args := [d] }
  | _ => none }
def digestMakesRow : OpenClaim := { program := "yticagdppjknlaaa", sum := "d9a37a8ade5009bf2615c0095e262c413432b624f87b7e488db9930928ee31ab", func := "theodolite/theodolitelaw22.DigestMakes", spec := "digestMakes", inPlace := ["math/bits.Add64"], unfollowed := true, recurses := true, named := ["math/bits.divideError", "math/bits.overflowError"], apart := false }
def DigestMakesSaid : Prop := digestMakesRow.holds Try.pinned (OpenSpec.ofChange digestMakesSpec)

/-- ITS FALSE NEIGHBOUR: 'it returns false'. Refute it at one input. -/
def digestMakesWrong : ChangeSpec := { name := "digestMakes", fn := fun _ => fun
  | [d] => { results := [.lit (.bool false)], args := [d] }
  | _ => none }
def DigestMakesWrongFalsely : Prop := digestMakesRow.holds Try.pinned (OpenSpec.ofChange digestMakesWrong)

/-- 'theodolitelaw22.DigestAsks': WHATEVER THE INPUT: true; the input reads as it did. -/
def digestAsksSpec : ChangeSpec := { name := "digestAsks", fn := fun _ => fun
  | [d1, d2, d3, d4, d5, d6] => { results := [.lit (.bool true)], args := [d1, d2, d3, d4, d5, d6] }
  | _ => none }
def digestAsksRow : OpenClaim := { program := "yticagdppjknlaaa", sum := "d9a37a8ade5009bf2615c0095e262c413432b624f87b7e488db9930928ee31ab", func := "theodolite/theodolitelaw22.DigestAsks", spec := "digestAsks", inPlace := ["math/bits.Add64"], unfollowed := true, recurses := true, named := ["math/bits.divideError", "math/bits.overflowError"], apart := false }
def DigestAsksSaid : Prop := digestAsksRow.holds Try.pinned (OpenSpec.ofChange digestAsksSpec)

/-- ITS FALSE NEIGHBOUR: 'it returns false'. Refute it at one input. -/
def digestAsksWrong : ChangeSpec := { name := "digestAsks", fn := fun _ => fun
  | [d1, d2, d3, d4, d5, d6] => { results := [.lit (.bool false)], args := [d1, d2, d3, d4, d5, d6] }
  | _ => none }
def DigestAsksWrongFalsely : Prop := digestAsksRow.holds Try.pinned (OpenSpec.ofChange digestAsksWrong)

/-- 'theodolitelaw22.DigestMonotone': WHATEVER THE INPUT: true; the input reads as it did. -/
def digestMonotoneSpec : ChangeSpec := { name := "digestMonotone", fn := fun _ => fun
  | [d1, d2, d3, d4, d5, d6, d7, d8, d9] => { results := [.lit (.bool true)], args := [d1, d2, d3, d4, d5, d6, d7, d8, d9] }
  | _ => none }
def digestMonotoneRow : OpenClaim := { program := "yticagdppjknlaaa", sum := "d9a37a8ade5009bf2615c0095e262c413432b624f87b7e488db9930928ee31ab", func := "theodolite/theodolitelaw22.DigestMonotone", spec := "digestMonotone", inPlace := ["math/bits.Add64"], unfollowed := true, recurses := true, named := ["math/bits.divideError", "math/bits.overflowError"], apart := false }
def DigestMonotoneSaid : Prop := digestMonotoneRow.holds Try.pinned (OpenSpec.ofChange digestMonotoneSpec)

/-- ITS FALSE NEIGHBOUR: 'it returns false'. Refute it at one input. -/
def digestMonotoneWrong : ChangeSpec := { name := "digestMonotone", fn := fun _ => fun
  | [d1, d2, d3, d4, d5, d6, d7, d8, d9] => { results := [.lit (.bool false)], args := [d1, d2, d3, d4, d5, d6, d7, d8, d9] }
  | _ => none }
def DigestMonotoneWrongFalsely : Prop := digestMonotoneRow.holds Try.pinned (OpenSpec.ofChange digestMonotoneWrong)

/-- 'theodolitelaw22.DigestWeights': WHATEVER THE INPUT: true; the input reads as it did. -/
def digestWeightsSpec : ChangeSpec := { name := "digestWeights", fn := fun _ => fun
  | [d1, d2, d3] => { results := [.lit (.bool true)], args := [d1, d2, d3] }
  | _ => none }
def digestWeightsRow : OpenClaim := { program := "yticagdppjknlaaa", sum := "d9a37a8ade5009bf2615c0095e262c413432b624f87b7e488db9930928ee31ab", func := "theodolite/theodolitelaw22.DigestWeights", spec := "digestWeights", inPlace := ["math/bits.Add64"], unfollowed := true, recurses := true, named := ["math/bits.divideError", "math/bits.overflowError"], apart := false }
def DigestWeightsSaid : Prop := digestWeightsRow.holds Try.pinned (OpenSpec.ofChange digestWeightsSpec)

/-- ITS FALSE NEIGHBOUR: 'it returns false'. Refute it at one input. -/
def digestWeightsWrong : ChangeSpec := { name := "digestWeights", fn := fun _ => fun
  | [d1, d2, d3] => { results := [.lit (.bool false)], args := [d1, d2, d3] }
  | _ => none }
def DigestWeightsWrongFalsely : Prop := digestWeightsRow.holds Try.pinned (OpenSpec.ofChange digestWeightsWrong)

/-- 'theodolitelaw22.DigestPlain': WHATEVER THE INPUT: true; the input reads as it did. -/
def digestPlainSpec : ChangeSpec := { name := "digestPlain", fn := fun _ => fun
  | [d] => { results := [.lit (.bool true)], args := [d] }
  | _ => none }
def digestPlainRow : OpenClaim := { program := "yticagdppjknlaaa", sum := "d9a37a8ade5009bf2615c0095e262c413432b624f87b7e488db9930928ee31ab", func := "theodolite/theodolitelaw22.DigestPlain", spec := "digestPlain", inPlace := ["math/bits.Add64"], unfollowed := true, recurses := true, named := ["math/bits.divideError", "math/bits.overflowError"], apart := false }
def DigestPlainSaid : Prop := digestPlainRow.holds Try.pinned (OpenSpec.ofChange digestPlainSpec)

/-- ITS FALSE NEIGHBOUR: 'it returns false'. Refute it at one input. -/
def digestPlainWrong : ChangeSpec := { name := "digestPlain", fn := fun _ => fun
  | [d] => { results := [.lit (.bool false)], args := [d] }
  | _ => none }
def DigestPlainWrongFalsely : Prop := digestPlainRow.holds Try.pinned (OpenSpec.ofChange digestPlainWrong)

/-- 'theodolitelaw22.DigestLoads': WHATEVER THE INPUT: true; the input reads as it did. -/
def digestLoadsSpec : ChangeSpec := { name := "digestLoads", fn := fun _ => fun
  | [d1, d2, d3, d4, d5, d6, d7] => { results := [.lit (.bool true)], args := [d1, d2, d3, d4, d5, d6, d7] }
  | _ => none }
def digestLoadsRow : OpenClaim := { program := "yticagdppjknlaaa", sum := "d9a37a8ade5009bf2615c0095e262c413432b624f87b7e488db9930928ee31ab", func := "theodolite/theodolitelaw22.DigestLoads", spec := "digestLoads", inPlace := ["math/bits.Add64"], unfollowed := true, recurses := true, named := ["math/bits.divideError", "math/bits.overflowError"], apart := false }
def DigestLoadsSaid : Prop := digestLoadsRow.holds Try.pinned (OpenSpec.ofChange digestLoadsSpec)

/-- ITS FALSE NEIGHBOUR: 'it returns false'. Refute it at one input. -/
def digestLoadsWrong : ChangeSpec := { name := "digestLoads", fn := fun _ => fun
  | [d1, d2, d3, d4, d5, d6, d7] => { results := [.lit (.bool false)], args := [d1, d2, d3, d4, d5, d6, d7] }
  | _ => none }
def DigestLoadsWrongFalsely : Prop := digestLoadsRow.holds Try.pinned (OpenSpec.ofChange digestLoadsWrong)

/-- 'theodolitelaw22.DigestAgain': WHATEVER THE INPUT: true; the input reads as it did. -/
def digestAgainSpec : ChangeSpec := { name := "digestAgain", fn := fun _ => fun
  | [d1, d2, d3, d4] => { results := [.lit (.bool true)], args := [d1, d2, d3, d4] }
  | _ => none }
def digestAgainRow : OpenClaim := { program := "yticagdppjknlaaa", sum := "d9a37a8ade5009bf2615c0095e262c413432b624f87b7e488db9930928ee31ab", func := "theodolite/theodolitelaw22.DigestAgain", spec := "digestAgain", inPlace := ["math/bits.Add64"], unfollowed := true, recurses := true, named := ["math/bits.divideError", "math/bits.overflowError"], apart := false }
def DigestAgainSaid : Prop := digestAgainRow.holds Try.pinned (OpenSpec.ofChange digestAgainSpec)

/-- ITS FALSE NEIGHBOUR: 'it returns false'. Refute it at one input. -/
def digestAgainWrong : ChangeSpec := { name := "digestAgain", fn := fun _ => fun
  | [d1, d2, d3, d4] => { results := [.lit (.bool false)], args := [d1, d2, d3, d4] }
  | _ => none }
def DigestAgainWrongFalsely : Prop := digestAgainRow.holds Try.pinned (OpenSpec.ofChange digestAgainWrong)

/-- 'theodolitelaw22.DigestMeans': WHATEVER THE INPUT: true; the input reads as it did. -/
def digestMeansSpec : ChangeSpec := { name := "digestMeans", fn := fun _ => fun
  | [d1, d2, d3] => { results := [.lit (.bool true)], args := [d1, d2, d3] }
  | _ => none }
def digestMeansRow : OpenClaim := { program := "yticagdppjknlaaa", sum := "d9a37a8ade5009bf2615c0095e262c413432b624f87b7e488db9930928ee31ab", func := "theodolite/theodolitelaw22.DigestMeans", spec := "digestMeans", inPlace := ["math/bits.Add64"], unfollowed := true, recurses := true, named := ["math/bits.divideError", "math/bits.overflowError"], apart := false }
def DigestMeansSaid : Prop := digestMeansRow.holds Try.pinned (OpenSpec.ofChange digestMeansSpec)

/-- ITS FALSE NEIGHBOUR: 'it returns false'. Refute it at one input. -/
def digestMeansWrong : ChangeSpec := { name := "digestMeans", fn := fun _ => fun
  | [d1, d2, d3] => { results := [.lit (.bool false)], args := [d1, d2, d3] }
  | _ => none }
def DigestMeansWrongFalsely : Prop := digestMeansRow.holds Try.pinned (OpenSpec.ofChange digestMeansWrong)

/- THE SECOND FORM. 'bulk': how many values and letters a reading holds, each counted each time it is reached (what is shared counts as often as it is met; a slice's spare places count too). A statement '..UptoSaid' is the law's where the arguments, and the package variables that the reading takes, are together of bulk at most 1048576: NARROWER than '..Said'. Prove '..Said' where nothing that the law and all that it calls make is longer than what came in: it says more and counts as full. Else prove '..UptoSaid'. A law counts once. -/
mutual
def uptoBulk {H : Type} : DataW H → Nat
  | .lit (.string bytes) => bytes.length + 1
  | .lit _ => 1
  | .nil => 1
  | .ptr d => uptoBulk d + 1
  | .slice elems spare => uptoBulkAll elems + uptoBulkAll spare + 1
  | .agg parts => uptoBulkAll parts + 1
  | .iface _ d => uptoBulk d + 1
  | .map entries => uptoBulkEntries entries + 1
  | .held _ => 1
def uptoBulkAll {H : Type} : List (DataW H) → Nat
  | [] => 0
  | d :: r => uptoBulk d + uptoBulkAll r
def uptoBulkEntries {H : Type} : List (Lit × DataW H) → Nat
  | [] => 0
  | x :: r => uptoBulkEntry x + uptoBulkEntries r
def uptoBulkEntry {H : Type} : Lit × DataW H → Nat
  | (.string bytes, d) => bytes.length + uptoBulk d + 1
  | (_, d) => uptoBulk d + 1
 end
def uptoSmall : (H : Type) → List (DataW H) → Bool := fun _ ds => decide (uptoBulkAll ds ≤ 1048576)
def OpenSpec.upto (s : _root_.Go.ChangeSpec) : _root_.Go.OpenSpec := { _root_.Go.OpenSpec.ofChange s with cond := some uptoSmall }

/-- 'theodolitelaw22.DigestPlays', WHERE WHAT IT READS IS OF BULK AT MOST 1048576: true; the input reads as it did. -/
def digestPlaysUptoRow : OpenClaim := { program := "yticagdppjknlaaa", sum := "d9a37a8ade5009bf2615c0095e262c413432b624f87b7e488db9930928ee31ab", func := "theodolite/theodolitelaw22.DigestPlays", spec := "digestPlays", inPlace := ["math/bits.Add64"], unfollowed := true, recurses := true, named := ["math/bits.divideError", "math/bits.overflowError"], apart := false, narrowed := true }
def DigestPlaysUptoSaid : Prop := digestPlaysUptoRow.holds Try.pinned (OpenSpec.upto digestPlaysSpec)

/-- 'theodolitelaw22.DigestMakes', WHERE WHAT IT READS IS OF BULK AT MOST 1048576: true; the input reads as it did. -/
def digestMakesUptoRow : OpenClaim := { program := "yticagdppjknlaaa", sum := "d9a37a8ade5009bf2615c0095e262c413432b624f87b7e488db9930928ee31ab", func := "theodolite/theodolitelaw22.DigestMakes", spec := "digestMakes", inPlace := ["math/bits.Add64"], unfollowed := true, recurses := true, named := ["math/bits.divideError", "math/bits.overflowError"], apart := false, narrowed := true }
def DigestMakesUptoSaid : Prop := digestMakesUptoRow.holds Try.pinned (OpenSpec.upto digestMakesSpec)

/-- 'theodolitelaw22.DigestAsks', WHERE WHAT IT READS IS OF BULK AT MOST 1048576: true; the input reads as it did. -/
def digestAsksUptoRow : OpenClaim := { program := "yticagdppjknlaaa", sum := "d9a37a8ade5009bf2615c0095e262c413432b624f87b7e488db9930928ee31ab", func := "theodolite/theodolitelaw22.DigestAsks", spec := "digestAsks", inPlace := ["math/bits.Add64"], unfollowed := true, recurses := true, named := ["math/bits.divideError", "math/bits.overflowError"], apart := false, narrowed := true }
def DigestAsksUptoSaid : Prop := digestAsksUptoRow.holds Try.pinned (OpenSpec.upto digestAsksSpec)

/-- 'theodolitelaw22.DigestMonotone', WHERE WHAT IT READS IS OF BULK AT MOST 1048576: true; the input reads as it did. -/
def digestMonotoneUptoRow : OpenClaim := { program := "yticagdppjknlaaa", sum := "d9a37a8ade5009bf2615c0095e262c413432b624f87b7e488db9930928ee31ab", func := "theodolite/theodolitelaw22.DigestMonotone", spec := "digestMonotone", inPlace := ["math/bits.Add64"], unfollowed := true, recurses := true, named := ["math/bits.divideError", "math/bits.overflowError"], apart := false, narrowed := true }
def DigestMonotoneUptoSaid : Prop := digestMonotoneUptoRow.holds Try.pinned (OpenSpec.upto digestMonotoneSpec)

/-- 'theodolitelaw22.DigestWeights', WHERE WHAT IT READS IS OF BULK AT MOST 1048576: true; the input reads as it did. -/
def digestWeightsUptoRow : OpenClaim := { program := "yticagdppjknlaaa", sum := "d9a37a8ade5009bf2615c0095e262c413432b624f87b7e488db9930928ee31ab", func := "theodolite/theodolitelaw22.DigestWeights", spec := "digestWeights", inPlace := ["math/bits.Add64"], unfollowed := true, recurses := true, named := ["math/bits.divideError", "math/bits.overflowError"], apart := false, narrowed := true }
def DigestWeightsUptoSaid : Prop := digestWeightsUptoRow.holds Try.pinned (OpenSpec.upto digestWeightsSpec)

/-- 'theodolitelaw22.DigestPlain', WHERE WHAT IT READS IS OF BULK AT MOST 1048576: true; the input reads as it did. -/
def digestPlainUptoRow : OpenClaim := { program := "yticagdppjknlaaa", sum := "d9a37a8ade5009bf2615c0095e262c413432b624f87b7e488db9930928ee31ab", func := "theodolite/theodolitelaw22.DigestPlain", spec := "digestPlain", inPlace := ["math/bits.Add64"], unfollowed := true, recurses := true, named := ["math/bits.divideError", "math/bits.overflowError"], apart := false, narrowed := true }
def DigestPlainUptoSaid : Prop := digestPlainUptoRow.holds Try.pinned (OpenSpec.upto digestPlainSpec)

/-- 'theodolitelaw22.DigestLoads', WHERE WHAT IT READS IS OF BULK AT MOST 1048576: true; the input reads as it did. -/
def digestLoadsUptoRow : OpenClaim := { program := "yticagdppjknlaaa", sum := "d9a37a8ade5009bf2615c0095e262c413432b624f87b7e488db9930928ee31ab", func := "theodolite/theodolitelaw22.DigestLoads", spec := "digestLoads", inPlace := ["math/bits.Add64"], unfollowed := true, recurses := true, named := ["math/bits.divideError", "math/bits.overflowError"], apart := false, narrowed := true }
def DigestLoadsUptoSaid : Prop := digestLoadsUptoRow.holds Try.pinned (OpenSpec.upto digestLoadsSpec)

/-- 'theodolitelaw22.DigestAgain', WHERE WHAT IT READS IS OF BULK AT MOST 1048576: true; the input reads as it did. -/
def digestAgainUptoRow : OpenClaim := { program := "yticagdppjknlaaa", sum := "d9a37a8ade5009bf2615c0095e262c413432b624f87b7e488db9930928ee31ab", func := "theodolite/theodolitelaw22.DigestAgain", spec := "digestAgain", inPlace := ["math/bits.Add64"], unfollowed := true, recurses := true, named := ["math/bits.divideError", "math/bits.overflowError"], apart := false, narrowed := true }
def DigestAgainUptoSaid : Prop := digestAgainUptoRow.holds Try.pinned (OpenSpec.upto digestAgainSpec)

/-- 'theodolitelaw22.DigestMeans', WHERE WHAT IT READS IS OF BULK AT MOST 1048576: true; the input reads as it did. -/
def digestMeansUptoRow : OpenClaim := { program := "yticagdppjknlaaa", sum := "d9a37a8ade5009bf2615c0095e262c413432b624f87b7e488db9930928ee31ab", func := "theodolite/theodolitelaw22.DigestMeans", spec := "digestMeans", inPlace := ["math/bits.Add64"], unfollowed := true, recurses := true, named := ["math/bits.divideError", "math/bits.overflowError"], apart := false, narrowed := true }
def DigestMeansUptoSaid : Prop := digestMeansUptoRow.holds Try.pinned (OpenSpec.upto digestMeansSpec)

end Rows
end Go.Proofs.Yticagdppjknlaaa
