/-
  No cell of these rows narrows 'for every input' (looked for: loops, veiled, ifaces, maps, wideKeys, modest, calm, conditions, laid).
  DERIVED. THE GIVEN ROWS OF THIS SEAT. 5 by the template 'for every input the law returns true; each argument reads behind the call as it read before'; 0 by the template 'total and deterministic' (their statements: YtggpnjiankejmaaTotals.lean).
  GIVEN WITH THE SEED: the statements are not yours to turn. If you find one false, say at which input.
  Laid BY PROGRAM, IN A SANDBOX (cutbox-rows.mjs): the forced cells as the released guide's own fill.sh prints them over the translation ce0592f320ed57af… (all of the seat's roots in one cut). By AI agents, Wed Nov 11 2026. No macro, syntax, notation, axiom, sorry.
-/
import Derived.Test.YtggpnjiankejmaaChecked
import GoSem.Claim
import GoSem.ClaimJoined
import GoSem.ClaimMapViews
import Derived.JoinedTies
import Derived.KernelRfl
namespace Go.Proofs.Ytggpnjiankejmaa
/- THE CELL 'sum', in the pinned program and in every row, IS THE sha256 OF THE DUMP (.gsa) THAT YtggpnjiankejmaaProg.lean LOADS. Nothing in Lean hashes anything: it is a label: what it is worth is what the hold of that sum in a sandbox is worth. -/
noncomputable def Try.pinned : Pinned := { name := "ytggpnjiankejmaa", sum := "ce0592f320ed57afe807a62facbbaa6e3f5c823b4ba2629166c05067a329e54f", checked := Try.checked }
namespace Rows
def none {H : Type} : Left H := { results := [], args := [] }

/-- 'theodolitelaw17.HdrmapShapes': WHATEVER THE INPUT: true; the input reads as it did. -/
def hdrmapShapesSpec : ChangeSpec := { name := "hdrmapShapes", fn := fun _ => fun
  | [d] => { results := [.lit (.bool true)], args := [d] }
  | _ => none }
def hdrmapShapesRow : OpenClaim := { program := "ytggpnjiankejmaa", sum := "ce0592f320ed57afe807a62facbbaa6e3f5c823b4ba2629166c05067a329e54f", func := "theodolite/theodolitelaw17.HdrmapShapes", spec := "hdrmapShapes", unfollowed := true, recurses := true, apart := false }
def HdrmapShapesSaid : Prop := hdrmapShapesRow.holds Try.pinned (OpenSpec.ofChange hdrmapShapesSpec)

/-- ITS FALSE NEIGHBOUR: 'it returns false'. Refute it at one input. -/
def hdrmapShapesWrong : ChangeSpec := { name := "hdrmapShapes", fn := fun _ => fun
  | [d] => { results := [.lit (.bool false)], args := [d] }
  | _ => none }
def HdrmapShapesWrongFalsely : Prop := hdrmapShapesRow.holds Try.pinned (OpenSpec.ofChange hdrmapShapesWrong)

/-- 'theodolitelaw17.HdrmapCells': WHATEVER THE INPUT: true; the input reads as it did. -/
def hdrmapCellsSpec : ChangeSpec := { name := "hdrmapCells", fn := fun _ => fun
  | [d1, d2, d3] => { results := [.lit (.bool true)], args := [d1, d2, d3] }
  | _ => none }
def hdrmapCellsRow : OpenClaim := { program := "ytggpnjiankejmaa", sum := "ce0592f320ed57afe807a62facbbaa6e3f5c823b4ba2629166c05067a329e54f", func := "theodolite/theodolitelaw17.HdrmapCells", spec := "hdrmapCells", unfollowed := true, recurses := true, apart := false }
def HdrmapCellsSaid : Prop := hdrmapCellsRow.holds Try.pinned (OpenSpec.ofChange hdrmapCellsSpec)

/-- ITS FALSE NEIGHBOUR: 'it returns false'. Refute it at one input. -/
def hdrmapCellsWrong : ChangeSpec := { name := "hdrmapCells", fn := fun _ => fun
  | [d1, d2, d3] => { results := [.lit (.bool false)], args := [d1, d2, d3] }
  | _ => none }
def HdrmapCellsWrongFalsely : Prop := hdrmapCellsRow.holds Try.pinned (OpenSpec.ofChange hdrmapCellsWrong)

/-- 'theodolitelaw17.HdrmapIndexes': WHATEVER THE INPUT: true; the input reads as it did. -/
def hdrmapIndexesSpec : ChangeSpec := { name := "hdrmapIndexes", fn := fun _ => fun
  | [d1, d2, d3] => { results := [.lit (.bool true)], args := [d1, d2, d3] }
  | _ => none }
def hdrmapIndexesRow : OpenClaim := { program := "ytggpnjiankejmaa", sum := "ce0592f320ed57afe807a62facbbaa6e3f5c823b4ba2629166c05067a329e54f", func := "theodolite/theodolitelaw17.HdrmapIndexes", spec := "hdrmapIndexes", unfollowed := true, recurses := true, apart := false }
def HdrmapIndexesSaid : Prop := hdrmapIndexesRow.holds Try.pinned (OpenSpec.ofChange hdrmapIndexesSpec)

/-- ITS FALSE NEIGHBOUR: 'it returns false'. Refute it at one input. -/
def hdrmapIndexesWrong : ChangeSpec := { name := "hdrmapIndexes", fn := fun _ => fun
  | [d1, d2, d3] => { results := [.lit (.bool false)], args := [d1, d2, d3] }
  | _ => none }
def HdrmapIndexesWrongFalsely : Prop := hdrmapIndexesRow.holds Try.pinned (OpenSpec.ofChange hdrmapIndexesWrong)

/-- 'theodolitelaw17.HdrmapNear': WHATEVER THE INPUT: true; the input reads as it did. -/
def hdrmapNearSpec : ChangeSpec := { name := "hdrmapNear", fn := fun _ => fun
  | [d1, d2, d3, d4] => { results := [.lit (.bool true)], args := [d1, d2, d3, d4] }
  | _ => none }
def hdrmapNearRow : OpenClaim := { program := "ytggpnjiankejmaa", sum := "ce0592f320ed57afe807a62facbbaa6e3f5c823b4ba2629166c05067a329e54f", func := "theodolite/theodolitelaw17.HdrmapNear", spec := "hdrmapNear", unfollowed := true, recurses := true, apart := false }
def HdrmapNearSaid : Prop := hdrmapNearRow.holds Try.pinned (OpenSpec.ofChange hdrmapNearSpec)

/-- ITS FALSE NEIGHBOUR: 'it returns false'. Refute it at one input. -/
def hdrmapNearWrong : ChangeSpec := { name := "hdrmapNear", fn := fun _ => fun
  | [d1, d2, d3, d4] => { results := [.lit (.bool false)], args := [d1, d2, d3, d4] }
  | _ => none }
def HdrmapNearWrongFalsely : Prop := hdrmapNearRow.holds Try.pinned (OpenSpec.ofChange hdrmapNearWrong)

/-- 'theodolitelaw17.HdrmapBuckets': WHATEVER THE INPUT: true; the input reads as it did. -/
def hdrmapBucketsSpec : ChangeSpec := { name := "hdrmapBuckets", fn := fun _ => fun
  | [d1, d2, d3, d4] => { results := [.lit (.bool true)], args := [d1, d2, d3, d4] }
  | _ => none }
def hdrmapBucketsRow : OpenClaim := { program := "ytggpnjiankejmaa", sum := "ce0592f320ed57afe807a62facbbaa6e3f5c823b4ba2629166c05067a329e54f", func := "theodolite/theodolitelaw17.HdrmapBuckets", spec := "hdrmapBuckets", unfollowed := true, recurses := true, apart := false }
def HdrmapBucketsSaid : Prop := hdrmapBucketsRow.holds Try.pinned (OpenSpec.ofChange hdrmapBucketsSpec)

/-- ITS FALSE NEIGHBOUR: 'it returns false'. Refute it at one input. -/
def hdrmapBucketsWrong : ChangeSpec := { name := "hdrmapBuckets", fn := fun _ => fun
  | [d1, d2, d3, d4] => { results := [.lit (.bool false)], args := [d1, d2, d3, d4] }
  | _ => none }
def HdrmapBucketsWrongFalsely : Prop := hdrmapBucketsRow.holds Try.pinned (OpenSpec.ofChange hdrmapBucketsWrong)

/- THE SECOND FORM. 'bulk': how many values and letters a reading holds, each counted each time it is reached (what is shared counts as often as it is met; a slice's spare places count too). A statement '..UptoSaid' is the law's where the arguments, and the package variables that the reading takes, are together of bulk at most 1048576: NARROWER than '..Said'. Prove '..Said' where nothing that the law and all that it calls make is longer than what came in: it says more and counts as full. Else prove '..UptoSaid'. A law counts once. -/
mutual
def uptoBulk {H : Type} : DataW H → Nat
  | .lit (.string bytes) => bytes.length + 1
  | .lit _ => 1
  | .nil => 1
  | .ptr d => uptoBulk d + 1
  | .slice elems spare => uptoBulkAll elems + uptoBulkAll spare + 1
  | .agg parts => uptoBulkAll parts + 1
  | .iface _ d => uptoBulk d + 1
  | .map entries => uptoBulkEntries entries + 1
  | .held _ => 1
def uptoBulkAll {H : Type} : List (DataW H) → Nat
  | [] => 0
  | d :: r => uptoBulk d + uptoBulkAll r
def uptoBulkEntries {H : Type} : List (Lit × DataW H) → Nat
  | [] => 0
  | x :: r => uptoBulkEntry x + uptoBulkEntries r
def uptoBulkEntry {H : Type} : Lit × DataW H → Nat
  | (.string bytes, d) => bytes.length + uptoBulk d + 1
  | (_, d) => uptoBulk d + 1
 end
def uptoSmall : (H : Type) → List (DataW H) → Bool := fun _ ds => decide (uptoBulkAll ds ≤ 1048576)
def OpenSpec.upto (s : _root_.Go.ChangeSpec) : _root_.Go.OpenSpec := { _root_.Go.OpenSpec.ofChange s with cond := some uptoSmall }

/-- 'theodolitelaw17.HdrmapShapes', WHERE WHAT IT READS IS OF BULK AT MOST 1048576: true; the input reads as it did. -/
def hdrmapShapesUptoRow : OpenClaim := { program := "ytggpnjiankejmaa", sum := "ce0592f320ed57afe807a62facbbaa6e3f5c823b4ba2629166c05067a329e54f", func := "theodolite/theodolitelaw17.HdrmapShapes", spec := "hdrmapShapes", unfollowed := true, recurses := true, apart := false, narrowed := true }
def HdrmapShapesUptoSaid : Prop := hdrmapShapesUptoRow.holds Try.pinned (OpenSpec.upto hdrmapShapesSpec)

/-- 'theodolitelaw17.HdrmapCells', WHERE WHAT IT READS IS OF BULK AT MOST 1048576: true; the input reads as it did. -/
def hdrmapCellsUptoRow : OpenClaim := { program := "ytggpnjiankejmaa", sum := "ce0592f320ed57afe807a62facbbaa6e3f5c823b4ba2629166c05067a329e54f", func := "theodolite/theodolitelaw17.HdrmapCells", spec := "hdrmapCells", unfollowed := true, recurses := true, apart := false, narrowed := true }
def HdrmapCellsUptoSaid : Prop := hdrmapCellsUptoRow.holds Try.pinned (OpenSpec.upto hdrmapCellsSpec)

/-- 'theodolitelaw17.HdrmapIndexes', WHERE WHAT IT READS IS OF BULK AT MOST 1048576: true; the input reads as it did. -/
def hdrmapIndexesUptoRow : OpenClaim := { program := "ytggpnjiankejmaa", sum := "ce0592f320ed57afe807a62facbbaa6e3f5c823b4ba2629166c05067a329e54f", func := "theodolite/theodolitelaw17.HdrmapIndexes", spec := "hdrmapIndexes", unfollowed := true, recurses := true, apart := false, narrowed := true }
def HdrmapIndexesUptoSaid : Prop := hdrmapIndexesUptoRow.holds Try.pinned (OpenSpec.upto hdrmapIndexesSpec)

/-- 'theodolitelaw17.HdrmapNear', WHERE WHAT IT READS IS OF BULK AT MOST 1048576: true; the input reads as it did. -/
def hdrmapNearUptoRow : OpenClaim := { program := "ytggpnjiankejmaa", sum := "ce0592f320ed57afe807a62facbbaa6e3f5c823b4ba2629166c05067a329e54f", func := "theodolite/theodolitelaw17.HdrmapNear", spec := "hdrmapNear", unfollowed := true, recurses := true, apart := false, narrowed := true }
def HdrmapNearUptoSaid : Prop := hdrmapNearUptoRow.holds Try.pinned (OpenSpec.upto hdrmapNearSpec)

/-- 'theodolitelaw17.HdrmapBuckets', WHERE WHAT IT READS IS OF BULK AT MOST 1048576: true; the input reads as it did. -/
def hdrmapBucketsUptoRow : OpenClaim := { program := "ytggpnjiankejmaa", sum := "ce0592f320ed57afe807a62facbbaa6e3f5c823b4ba2629166c05067a329e54f", func := "theodolite/theodolitelaw17.HdrmapBuckets", spec := "hdrmapBuckets", unfollowed := true, recurses := true, apart := false, narrowed := true }
def HdrmapBucketsUptoSaid : Prop := hdrmapBucketsUptoRow.holds Try.pinned (OpenSpec.upto hdrmapBucketsSpec)

end Rows
end Go.Proofs.Ytggpnjiankejmaa
