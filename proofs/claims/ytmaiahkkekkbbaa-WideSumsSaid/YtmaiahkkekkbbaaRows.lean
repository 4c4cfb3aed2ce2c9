/-
  No cell of these rows narrows 'for every input' (looked for: loops, veiled, ifaces, maps, wideKeys, modest, calm, conditions, laid).
  DERIVED. THE GIVEN ROWS OF THIS SEAT. 6 by the template 'for every input the law returns true; each argument reads behind the call as it read before'; 0 by the template 'total and deterministic' (their statements: YtmaiahkkekkbbaaTotals.lean).
  GIVEN WITH THE SEED: the statements are not yours to turn. If you find one false, say at which input.
  Laid BY PROGRAM, IN A SANDBOX (cutbox-rows.mjs): the forced cells as the released guide's own fill.sh prints them over the translation a10061eec538e554… (all of the seat's roots in one cut). By AI agents, Wed Nov 11 2026. No macro, syntax, notation, axiom, sorry.
-/
import Derived.Test.YtmaiahkkekkbbaaChecked
import GoSem.Claim
import GoSem.ClaimJoined
import GoSem.ClaimMapViews
import Derived.JoinedTies
import Derived.KernelRfl
namespace Go.Proofs.Ytmaiahkkekkbbaa
/- THE CELL 'sum', in the pinned program and in every row, IS THE sha256 OF THE DUMP (.gsa) THAT YtmaiahkkekkbbaaProg.lean LOADS. Nothing in Lean hashes anything: it is a label: what it is worth is what the hold of that sum in a sandbox is worth. -/
noncomputable def Try.pinned : Pinned := { name := "ytmaiahkkekkbbaa", sum := "a10061eec538e55405d898b8e9f890d29e4d94f7e0fe16fa46877363970c920a", checked := Try.checked }
namespace Rows
def none {H : Type} : Left H := { results := [], args := [] }

/-- 'theodolitelaw10.WideSums': WHATEVER THE INPUT: true; the input reads as it did. -/
def wideSumsSpec : ChangeSpec := { name := "wideSums", fn := fun _ => fun
  | [d1, d2, d3, d4] => { results := [.lit (.bool true)], args := [d1, d2, d3, d4] }
  | _ => none }
def wideSumsRow : OpenClaim := { program := "ytmaiahkkekkbbaa", sum := "a10061eec538e55405d898b8e9f890d29e4d94f7e0fe16fa46877363970c920a", func := "theodolite/theodolitelaw10.WideSums", spec := "wideSums", inPlace := ["math/bits.Add64", "math/bits.Sub64"], unfollowed := true, recurses := true, named := ["math/bits.divideError", "math/bits.overflowError"], apart := false }
def WideSumsSaid : Prop := wideSumsRow.holds Try.pinned (OpenSpec.ofChange wideSumsSpec)

/-- ITS FALSE NEIGHBOUR: 'it returns false'. Refute it at one input. -/
def wideSumsWrong : ChangeSpec := { name := "wideSums", fn := fun _ => fun
  | [d1, d2, d3, d4] => { results := [.lit (.bool false)], args := [d1, d2, d3, d4] }
  | _ => none }
def WideSumsWrongFalsely : Prop := wideSumsRow.holds Try.pinned (OpenSpec.ofChange wideSumsWrong)

/-- 'theodolitelaw10.WideDivides': WHATEVER THE INPUT: true; the input reads as it did. -/
def wideDividesSpec : ChangeSpec := { name := "wideDivides", fn := fun _ => fun
  | [d1, d2] => { results := [.lit (.bool true)], args := [d1, d2] }
  | _ => none }
def wideDividesRow : OpenClaim := { program := "ytmaiahkkekkbbaa", sum := "a10061eec538e55405d898b8e9f890d29e4d94f7e0fe16fa46877363970c920a", func := "theodolite/theodolitelaw10.WideDivides", spec := "wideDivides", inPlace := ["math/bits.Add64"], unfollowed := true, recurses := true, named := ["math/bits.divideError", "math/bits.overflowError"], apart := false }
def WideDividesSaid : Prop := wideDividesRow.holds Try.pinned (OpenSpec.ofChange wideDividesSpec)

/-- ITS FALSE NEIGHBOUR: 'it returns false'. Refute it at one input. -/
def wideDividesWrong : ChangeSpec := { name := "wideDivides", fn := fun _ => fun
  | [d1, d2] => { results := [.lit (.bool false)], args := [d1, d2] }
  | _ => none }
def WideDividesWrongFalsely : Prop := wideDividesRow.holds Try.pinned (OpenSpec.ofChange wideDividesWrong)

/-- 'theodolitelaw10.WideMulDivs': WHATEVER THE INPUT: true; the input reads as it did. -/
def wideMulDivsSpec : ChangeSpec := { name := "wideMulDivs", fn := fun _ => fun
  | [d1, d2, d3] => { results := [.lit (.bool true)], args := [d1, d2, d3] }
  | _ => none }
def wideMulDivsRow : OpenClaim := { program := "ytmaiahkkekkbbaa", sum := "a10061eec538e55405d898b8e9f890d29e4d94f7e0fe16fa46877363970c920a", func := "theodolite/theodolitelaw10.WideMulDivs", spec := "wideMulDivs", inPlace := ["math/bits.Add64"], unfollowed := true, recurses := true, named := ["math/bits.divideError", "math/bits.overflowError"], apart := false }
def WideMulDivsSaid : Prop := wideMulDivsRow.holds Try.pinned (OpenSpec.ofChange wideMulDivsSpec)

/-- ITS FALSE NEIGHBOUR: 'it returns false'. Refute it at one input. -/
def wideMulDivsWrong : ChangeSpec := { name := "wideMulDivs", fn := fun _ => fun
  | [d1, d2, d3] => { results := [.lit (.bool false)], args := [d1, d2, d3] }
  | _ => none }
def WideMulDivsWrongFalsely : Prop := wideMulDivsRow.holds Try.pinned (OpenSpec.ofChange wideMulDivsWrong)

/-- 'theodolitelaw10.WideAverages': WHATEVER THE INPUT: true; the input reads as it did. -/
def wideAveragesSpec : ChangeSpec := { name := "wideAverages", fn := fun _ => fun
  | [d1, d2, d3, d4] => { results := [.lit (.bool true)], args := [d1, d2, d3, d4] }
  | _ => none }
def wideAveragesRow : OpenClaim := { program := "ytmaiahkkekkbbaa", sum := "a10061eec538e55405d898b8e9f890d29e4d94f7e0fe16fa46877363970c920a", func := "theodolite/theodolitelaw10.WideAverages", spec := "wideAverages", inPlace := ["math/bits.Add64"], unfollowed := true, recurses := true, named := ["math/bits.divideError", "math/bits.overflowError"], apart := false }
def WideAveragesSaid : Prop := wideAveragesRow.holds Try.pinned (OpenSpec.ofChange wideAveragesSpec)

/-- ITS FALSE NEIGHBOUR: 'it returns false'. Refute it at one input. -/
def wideAveragesWrong : ChangeSpec := { name := "wideAverages", fn := fun _ => fun
  | [d1, d2, d3, d4] => { results := [.lit (.bool false)], args := [d1, d2, d3, d4] }
  | _ => none }
def WideAveragesWrongFalsely : Prop := wideAveragesRow.holds Try.pinned (OpenSpec.ofChange wideAveragesWrong)

/-- 'theodolitelaw10.WideLerps': WHATEVER THE INPUT: true; the input reads as it did. -/
def wideLerpsSpec : ChangeSpec := { name := "wideLerps", fn := fun _ => fun
  | [d1, d2, d3, d4, d5] => { results := [.lit (.bool true)], args := [d1, d2, d3, d4, d5] }
  | _ => none }
def wideLerpsRow : OpenClaim := { program := "ytmaiahkkekkbbaa", sum := "a10061eec538e55405d898b8e9f890d29e4d94f7e0fe16fa46877363970c920a", func := "theodolite/theodolitelaw10.WideLerps", spec := "wideLerps", inPlace := ["math/bits.Add64"], unfollowed := true, recurses := true, named := ["math/bits.divideError", "math/bits.overflowError"], apart := false }
def WideLerpsSaid : Prop := wideLerpsRow.holds Try.pinned (OpenSpec.ofChange wideLerpsSpec)

/-- ITS FALSE NEIGHBOUR: 'it returns false'. Refute it at one input. -/
def wideLerpsWrong : ChangeSpec := { name := "wideLerps", fn := fun _ => fun
  | [d1, d2, d3, d4, d5] => { results := [.lit (.bool false)], args := [d1, d2, d3, d4, d5] }
  | _ => none }
def WideLerpsWrongFalsely : Prop := wideLerpsRow.holds Try.pinned (OpenSpec.ofChange wideLerpsWrong)

/-- 'theodolitelaw10.WideMeans': WHATEVER THE INPUT: true; the input reads as it did. -/
def wideMeansSpec : ChangeSpec := { name := "wideMeans", fn := fun _ => fun
  | [d] => { results := [.lit (.bool true)], args := [d] }
  | _ => none }
def wideMeansRow : OpenClaim := { program := "ytmaiahkkekkbbaa", sum := "a10061eec538e55405d898b8e9f890d29e4d94f7e0fe16fa46877363970c920a", func := "theodolite/theodolitelaw10.WideMeans", spec := "wideMeans", inPlace := ["math/bits.Add64"], unfollowed := true, recurses := true, named := ["math/bits.divideError", "math/bits.overflowError"], apart := false }
def WideMeansSaid : Prop := wideMeansRow.holds Try.pinned (OpenSpec.ofChange wideMeansSpec)

/-- ITS FALSE NEIGHBOUR: 'it returns false'. Refute it at one input. -/
def wideMeansWrong : ChangeSpec := { name := "wideMeans", fn := fun _ => fun
  | [d] => { results := [.lit (.bool false)], args := [d] }
  | _ => none }
def WideMeansWrongFalsely : Prop := wideMeansRow.holds Try.pinned (OpenSpec.ofChange wideMeansWrong)

/- THE SECOND FORM. 'bulk': how many values and letters a reading holds, each counted each time it is reached (what is shared counts as often as it is met; a slice's spare places count too). A statement '..UptoSaid' is the law's where the arguments, and the package variables that the reading takes, are together of bulk at most 1048576: NARROWER than '..Said'. Prove '..Said' where nothing that the law and all that it calls make is longer than what came in: it says more and counts as full. Else prove '..UptoSaid'. A law counts once. -/
mutual
def uptoBulk {H : Type} : DataW H → Nat
  | .lit (.string bytes) => bytes.length + 1
  | .lit _ => 1
  | .nil => 1
  | .ptr d => uptoBulk d + 1
  | .slice elems spare => uptoBulkAll elems + uptoBulkAll spare + 1
  | .agg parts => uptoBulkAll parts + 1
  | .iface _ d => uptoBulk d + 1
  | .map entries => uptoBulkEntries entries + 1
  | .held _ => 1
def uptoBulkAll {H : Type} : List (DataW H) → Nat
  | [] => 0
  | d :: r => uptoBulk d + uptoBulkAll r
def uptoBulkEntries {H : Type} : List (Lit × DataW H) → Nat
  | [] => 0
  | x :: r => uptoBulkEntry x + uptoBulkEntries r
def uptoBulkEntry {H : Type} : Lit × DataW H → Nat
  | (.string bytes, d) => bytes.length + uptoBulk d + 1
  | (_, d) => uptoBulk d + 1
 end
def uptoSmall : (H : Type) → List (DataW H) → Bool := fun _ ds => decide (uptoBulkAll ds ≤ 1048576)
def OpenSpec.upto (s : _root_.Go.ChangeSpec) : _root_.Go.OpenSpec := { _root_.Go.OpenSpec.ofChange s with cond := some uptoSmall }

/-- 'theodolitelaw10.WideSums', WHERE WHAT IT READS IS OF BULK AT MOST 1048576: true; the input reads as it did. -/
def wideSumsUptoRow : OpenClaim := { program := "ytmaiahkkekkbbaa", sum := "a10061eec538e55405d898b8e9f890d29e4d94f7e0fe16fa46877363970c920a", func := "theodolite/theodolitelaw10.WideSums", spec := "wideSums", inPlace := ["math/bits.Add64", "math/bits.Sub64"], unfollowed := true, recurses := true, named := ["math/bits.divideError", "math/bits.overflowError"], apart := false, narrowed := true }
def WideSumsUptoSaid : Prop := wideSumsUptoRow.holds Try.pinned (OpenSpec.upto wideSumsSpec)

/-- 'theodolitelaw10.WideDivides', WHERE WHAT IT READS IS OF BULK AT MOST 1048576: true; the input reads as it did. -/
def wideDividesUptoRow : OpenClaim := { program := "ytmaiahkkekkbbaa", sum := "a10061eec538e55405d898b8e9f890d29e4d94f7e0fe16fa46877363970c920a", func := "theodolite/theodolitelaw10.WideDivides", spec := "wideDivides", inPlace := ["math/bits.Add64"], unfollowed := true, recurses := true, named := ["math/bits.divideError", "math/bits.overflowError"], apart := false, narrowed := true }
def WideDividesUptoSaid : Prop := wideDividesUptoRow.holds Try.pinned (OpenSpec.upto wideDividesSpec)

/-- 'theodolitelaw10.WideMulDivs', WHERE WHAT IT READS IS OF BULK AT MOST 1048576: true; the input reads as it did. -/
def wideMulDivsUptoRow : OpenClaim := { program := "ytmaiahkkekkbbaa", sum := "a10061eec538e55405d898b8e9f890d29e4d94f7e0fe16fa46877363970c920a", func := "theodolite/theodolitelaw10.WideMulDivs", spec := "wideMulDivs", inPlace := ["math/bits.Add64"], unfollowed := true, recurses := true, named := ["math/bits.divideError", "math/bits.overflowError"], apart := false, narrowed := true }
def WideMulDivsUptoSaid : Prop := wideMulDivsUptoRow.holds Try.pinned (OpenSpec.upto wideMulDivsSpec)

/-- 'theodolitelaw10.WideAverages', WHERE WHAT IT READS IS OF BULK AT MOST 1048576: true; the input reads as it did. -/
def wideAveragesUptoRow : OpenClaim := { program := "ytmaiahkkekkbbaa", sum := "a10061eec538e55405d898b8e9f890d29e4d94f7e0fe16fa46877363970c920a", func := "theodolite/theodolitelaw10.WideAverages", spec := "wideAverages", inPlace := ["math/bits.Add64"], unfollowed := true, recurses := true, named := ["math/bits.divideError", "math/bits.overflowError"], apart := false, narrowed := true }
def WideAveragesUptoSaid : Prop := wideAveragesUptoRow.holds Try.pinned (OpenSpec.upto wideAveragesSpec)

/-- 'theodolitelaw10.WideLerps', WHERE WHAT IT READS IS OF BULK AT MOST 1048576: true; the input reads as it did. -/
def wideLerpsUptoRow : OpenClaim := { program := "ytmaiahkkekkbbaa", sum := "a10061eec538e55405d898b8e9f890d29e4d94f7e0fe16fa46877363970c920a", func := "theodolite/theodolitelaw10.WideLerps", spec := "wideLerps", inPlace := ["math/bits.Add64"], unfollowed := true, recurses := true, named := ["math/bits.divideError", "math/bits.overflowError"], apart := false, narrowed := true }
def WideLerpsUptoSaid : Prop := wideLerpsUptoRow.holds Try.pinned (OpenSpec.upto wideLerpsSpec)

/-- 'theodolitelaw10.WideMeans', WHERE WHAT IT READS IS OF BULK AT MOST 1048576: true; the input reads as it did. -/
def wideMeansUptoRow : OpenClaim := { program := "ytmaiahkkekkbbaa", sum := "a10061eec538e55405d898b8e9f890d29e4d94f7e0fe16fa46877363970c920a", func := "theodolite/theodolitelaw10.WideMeans", spec := "wideMeans", inPlace := ["math/bits.Add64"], unfollowed := true, recurses := true, named := ["math/bits.divideError", "math/bits.overflowError"], apart := false, narrowed := true }
def WideMeansUptoSaid : Prop := wideMeansUptoRow.holds Try.pinned (OpenSpec.upto wideMeansSpec)

end Rows
end Go.Proofs.Ytmaiahkkekkbbaa
