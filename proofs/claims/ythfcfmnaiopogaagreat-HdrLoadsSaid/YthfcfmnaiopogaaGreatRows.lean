/-
  No cell of these rows narrows 'for every input' (looked for: loops, veiled, ifaces, maps, wideKeys, modest, calm, conditions, laid).
  DERIVED. THE GIVEN ROWS OF THIS SEAT. 8 by the template 'for every input the law returns true; each argument reads behind the call as it read before'; 0 by the template 'total and deterministic' (their statements: YthfcfmnaiopogaaGreatTotals.lean).
  GIVEN WITH THE SEED: the statements are not yours to turn. If you find one false, say at which input.
  Laid BY PROGRAM, IN A SANDBOX (cutbox-rows.mjs): the forced cells as the released guide's own fill.sh prints them over the translation c749e0a331f92d11… (all of the seat's roots in one cut). By AI agents, Wed Nov 11 2026. No macro, syntax, notation, axiom, sorry.
-/
import Derived.Test.YthfcfmnaiopogaaGreatChecked
import GoSem.Claim
import GoSem.ClaimJoined
import GoSem.ClaimMapViews
import Derived.JoinedTies
import Derived.KernelRfl
namespace Go.Proofs.YthfcfmnaiopogaaGreat
/- THE CELL 'sum', in the pinned program and in every row, IS THE sha256 OF THE DUMP (.gsa) THAT YthfcfmnaiopogaaGreatProg.lean LOADS. Nothing in Lean hashes anything: it is a label: what it is worth is what the hold of that sum in a sandbox is worth. -/
noncomputable def Tryz.pinned : Pinned := { name := "ythfcfmnaiopogaagreat", sum := "c749e0a331f92d119297e9130940cc620991955f686215084d6d25f725ad62cd", checked := Tryz.checked }
namespace Rows
def none {H : Type} : Left H := { results := [], args := [] }

/-- 'theodolitelaw18.HdrPlays': WHATEVER THE INPUT: true; the input reads as it did. -/
def hdrPlaysSpec : ChangeSpec := { name := "hdrPlays", fn := fun _ => fun
  | [d1, d2, d3, d4, d5] => { results := [.lit (.bool true)], args := [d1, d2, d3, d4, d5] }
  | _ => none }
def hdrPlaysRow : OpenClaim := { program := "ythfcfmnaiopogaagreat", sum := "c749e0a331f92d119297e9130940cc620991955f686215084d6d25f725ad62cd", func := "theodolite/theodolitelaw18.HdrPlays", spec := "hdrPlays", unfollowed := true, recurses := true, named := ["math/bits.divideError", "math/bits.overflowError"], apart := false }
def HdrPlaysSaid : Prop := hdrPlaysRow.holds Tryz.pinned (OpenSpec.ofChange hdrPlaysSpec)

/-- ITS FALSE NEIGHBOUR: 'it returns false'. Refute it at one input. -/
def hdrPlaysWrong : ChangeSpec := { name := "hdrPlays", fn := fun _ => fun
  | [d1, d2, d3, d4, d5] => { results := [.lit (.bool false)], args := [d1, d2, d3, d4, d5] }
  | _ => none }
def HdrPlaysWrongFalsely : Prop := hdrPlaysRow.holds Tryz.pinned (OpenSpec.ofChange hdrPlaysWrong)

/-- 'theodolitelaw18.HdrAsks': WHATEVER THE INPUT: true; the input reads as it did. -/
def hdrAsksSpec : ChangeSpec := { name := "hdrAsks", fn := fun _ => fun
  | [d1, d2, d3, d4, d5, d6, d7, d8] => { results := [.lit (.bool true)], args := [d1, d2, d3, d4, d5, d6, d7, d8] }
  | _ => none }
def hdrAsksRow : OpenClaim := { program := "ythfcfmnaiopogaagreat", sum := "c749e0a331f92d119297e9130940cc620991955f686215084d6d25f725ad62cd", func := "theodolite/theodolitelaw18.HdrAsks", spec := "hdrAsks", unfollowed := true, recurses := true, named := ["math/bits.divideError", "math/bits.overflowError"], apart := false }
def HdrAsksSaid : Prop := hdrAsksRow.holds Tryz.pinned (OpenSpec.ofChange hdrAsksSpec)

/-- ITS FALSE NEIGHBOUR: 'it returns false'. Refute it at one input. -/
def hdrAsksWrong : ChangeSpec := { name := "hdrAsks", fn := fun _ => fun
  | [d1, d2, d3, d4, d5, d6, d7, d8] => { results := [.lit (.bool false)], args := [d1, d2, d3, d4, d5, d6, d7, d8] }
  | _ => none }
def HdrAsksWrongFalsely : Prop := hdrAsksRow.holds Tryz.pinned (OpenSpec.ofChange hdrAsksWrong)

/-- 'theodolitelaw18.HdrNear': WHATEVER THE INPUT: true; the input reads as it did. -/
def hdrNearSpec : ChangeSpec := { name := "hdrNear", fn := fun _ => fun
  | [d1, d2, d3, d4, d5, d6] => { results := [.lit (.bool true)], args := [d1, d2, d3, d4, d5, d6] }
  | _ => none }
def hdrNearRow : OpenClaim := { program := "ythfcfmnaiopogaagreat", sum := "c749e0a331f92d119297e9130940cc620991955f686215084d6d25f725ad62cd", func := "theodolite/theodolitelaw18.HdrNear", spec := "hdrNear", unfollowed := true, recurses := true, named := ["math/bits.divideError", "math/bits.overflowError"], apart := false }
def HdrNearSaid : Prop := hdrNearRow.holds Tryz.pinned (OpenSpec.ofChange hdrNearSpec)

/-- ITS FALSE NEIGHBOUR: 'it returns false'. Refute it at one input. -/
def hdrNearWrong : ChangeSpec := { name := "hdrNear", fn := fun _ => fun
  | [d1, d2, d3, d4, d5, d6] => { results := [.lit (.bool false)], args := [d1, d2, d3, d4, d5, d6] }
  | _ => none }
def HdrNearWrongFalsely : Prop := hdrNearRow.holds Tryz.pinned (OpenSpec.ofChange hdrNearWrong)

/-- 'theodolitelaw18.HdrOrder': WHATEVER THE INPUT: true; the input reads as it did. -/
def hdrOrderSpec : ChangeSpec := { name := "hdrOrder", fn := fun _ => fun
  | [d1, d2, d3, d4] => { results := [.lit (.bool true)], args := [d1, d2, d3, d4] }
  | _ => none }
def hdrOrderRow : OpenClaim := { program := "ythfcfmnaiopogaagreat", sum := "c749e0a331f92d119297e9130940cc620991955f686215084d6d25f725ad62cd", func := "theodolite/theodolitelaw18.HdrOrder", spec := "hdrOrder", unfollowed := true, recurses := true, named := ["math/bits.divideError", "math/bits.overflowError"], apart := false }
def HdrOrderSaid : Prop := hdrOrderRow.holds Tryz.pinned (OpenSpec.ofChange hdrOrderSpec)

/-- ITS FALSE NEIGHBOUR: 'it returns false'. Refute it at one input. -/
def hdrOrderWrong : ChangeSpec := { name := "hdrOrder", fn := fun _ => fun
  | [d1, d2, d3, d4] => { results := [.lit (.bool false)], args := [d1, d2, d3, d4] }
  | _ => none }
def HdrOrderWrongFalsely : Prop := hdrOrderRow.holds Tryz.pinned (OpenSpec.ofChange hdrOrderWrong)

/-- 'theodolitelaw18.HdrLoads': WHATEVER THE INPUT: true; the input reads as it did. -/
def hdrLoadsSpec : ChangeSpec := { name := "hdrLoads", fn := fun _ => fun
  | [d1, d2, d3, d4, d5, d6, d7] => { results := [.lit (.bool true)], args := [d1, d2, d3, d4, d5, d6, d7] }
  | _ => none }
def hdrLoadsRow : OpenClaim := { program := "ythfcfmnaiopogaagreat", sum := "c749e0a331f92d119297e9130940cc620991955f686215084d6d25f725ad62cd", func := "theodolite/theodolitelaw18.HdrLoads", spec := "hdrLoads", unfollowed := true, recurses := true, named := ["math/bits.divideError", "math/bits.overflowError"], apart := false }
def HdrLoadsSaid : Prop := hdrLoadsRow.holds Tryz.pinned (OpenSpec.ofChange hdrLoadsSpec)

/-- ITS FALSE NEIGHBOUR: 'it returns false'. Refute it at one input. -/
def hdrLoadsWrong : ChangeSpec := { name := "hdrLoads", fn := fun _ => fun
  | [d1, d2, d3, d4, d5, d6, d7] => { results := [.lit (.bool false)], args := [d1, d2, d3, d4, d5, d6, d7] }
  | _ => none }
def HdrLoadsWrongFalsely : Prop := hdrLoadsRow.holds Tryz.pinned (OpenSpec.ofChange hdrLoadsWrong)

/-- 'theodolitelaw18.HdrSteps': WHATEVER THE INPUT: true; the input reads as it did. -/
def hdrStepsSpec : ChangeSpec := { name := "hdrSteps", fn := fun _ => fun
  | [d1, d2, d3, d4, d5, d6, d7] => { results := [.lit (.bool true)], args := [d1, d2, d3, d4, d5, d6, d7] }
  | _ => none }
def hdrStepsRow : OpenClaim := { program := "ythfcfmnaiopogaagreat", sum := "c749e0a331f92d119297e9130940cc620991955f686215084d6d25f725ad62cd", func := "theodolite/theodolitelaw18.HdrSteps", spec := "hdrSteps", unfollowed := true, recurses := true, named := ["math/bits.divideError", "math/bits.overflowError"], apart := false }
def HdrStepsSaid : Prop := hdrStepsRow.holds Tryz.pinned (OpenSpec.ofChange hdrStepsSpec)

/-- ITS FALSE NEIGHBOUR: 'it returns false'. Refute it at one input. -/
def hdrStepsWrong : ChangeSpec := { name := "hdrSteps", fn := fun _ => fun
  | [d1, d2, d3, d4, d5, d6, d7] => { results := [.lit (.bool false)], args := [d1, d2, d3, d4, d5, d6, d7] }
  | _ => none }
def HdrStepsWrongFalsely : Prop := hdrStepsRow.holds Tryz.pinned (OpenSpec.ofChange hdrStepsWrong)

/-- 'theodolitelaw18.HdrHalves': WHATEVER THE INPUT: true; the input reads as it did. -/
def hdrHalvesSpec : ChangeSpec := { name := "hdrHalves", fn := fun _ => fun
  | [d1, d2, d3, d4, d5] => { results := [.lit (.bool true)], args := [d1, d2, d3, d4, d5] }
  | _ => none }
def hdrHalvesRow : OpenClaim := { program := "ythfcfmnaiopogaagreat", sum := "c749e0a331f92d119297e9130940cc620991955f686215084d6d25f725ad62cd", func := "theodolite/theodolitelaw18.HdrHalves", spec := "hdrHalves", unfollowed := true, recurses := true, named := ["math/bits.divideError", "math/bits.overflowError"], apart := false }
def HdrHalvesSaid : Prop := hdrHalvesRow.holds Tryz.pinned (OpenSpec.ofChange hdrHalvesSpec)

/-- ITS FALSE NEIGHBOUR: 'it returns false'. Refute it at one input. -/
def hdrHalvesWrong : ChangeSpec := { name := "hdrHalves", fn := fun _ => fun
  | [d1, d2, d3, d4, d5] => { results := [.lit (.bool false)], args := [d1, d2, d3, d4, d5] }
  | _ => none }
def HdrHalvesWrongFalsely : Prop := hdrHalvesRow.holds Tryz.pinned (OpenSpec.ofChange hdrHalvesWrong)

/-- 'theodolitelaw18.HdrMeans': WHATEVER THE INPUT: true; the input reads as it did. -/
def hdrMeansSpec : ChangeSpec := { name := "hdrMeans", fn := fun _ => fun
  | [d1, d2, d3, d4] => { results := [.lit (.bool true)], args := [d1, d2, d3, d4] }
  | _ => none }
def hdrMeansRow : OpenClaim := { program := "ythfcfmnaiopogaagreat", sum := "c749e0a331f92d119297e9130940cc620991955f686215084d6d25f725ad62cd", func := "theodolite/theodolitelaw18.HdrMeans", spec := "hdrMeans", inPlace := ["math/bits.Add64"], unfollowed := true, recurses := true, named := ["math/bits.divideError", "math/bits.overflowError"], apart := false }
def HdrMeansSaid : Prop := hdrMeansRow.holds Tryz.pinned (OpenSpec.ofChange hdrMeansSpec)

/-- ITS FALSE NEIGHBOUR: 'it returns false'. Refute it at one input. -/
def hdrMeansWrong : ChangeSpec := { name := "hdrMeans", fn := fun _ => fun
  | [d1, d2, d3, d4] => { results := [.lit (.bool false)], args := [d1, d2, d3, d4] }
  | _ => none }
def HdrMeansWrongFalsely : Prop := hdrMeansRow.holds Tryz.pinned (OpenSpec.ofChange hdrMeansWrong)

/- THE SECOND FORM. 'bulk': how many values and letters a reading holds, each counted each time it is reached (what is shared counts as often as it is met; a slice's spare places count too). A statement '..UptoSaid' is the law's where the arguments, and the package variables that the reading takes, are together of bulk at most 1048576: NARROWER than '..Said'. Prove '..Said' where nothing that the law and all that it calls make is longer than what came in: it says more and counts as full. Else prove '..UptoSaid'. A law counts once. -/
mutual
def uptoBulk {H : Type} : DataW H → Nat
  | .lit (.string bytes) => bytes.length + 1
  | .lit _ => 1
  | .nil => 1
  | .ptr d => uptoBulk d + 1
  | .slice elems spare => uptoBulkAll elems + uptoBulkAll spare + 1
  | .agg parts => uptoBulkAll parts + 1
  | .iface _ d => uptoBulk d + 1
  | .map entries => uptoBulkEntries entries + 1
  | .held _ => 1
def uptoBulkAll {H : Type} : List (DataW H) → Nat
  | [] => 0
  | d :: r => uptoBulk d + uptoBulkAll r
def uptoBulkEntries {H : Type} : List (Lit × DataW H) → Nat
  | [] => 0
  | x :: r => uptoBulkEntry x + uptoBulkEntries r
def uptoBulkEntry {H : Type} : Lit × DataW H → Nat
  | (.string bytes, d) => bytes.length + uptoBulk d + 1
  | (_, d) => uptoBulk d + 1
 end
def uptoSmall : (H : Type) → List (DataW H) → Bool := fun _ ds => decide (uptoBulkAll ds ≤ 1048576)
def OpenSpec.upto (s : _root_.Go.ChangeSpec) : _root_.Go.OpenSpec := { _root_.Go.OpenSpec.ofChange s with cond := some uptoSmall }

/-- 'theodolitelaw18.HdrPlays', WHERE WHAT IT READS IS OF BULK AT MOST 1048576: true; the input reads as it did. -/
def hdrPlaysUptoRow : OpenClaim := { program := "ythfcfmnaiopogaagreat", sum := "c749e0a331f92d119297e9130940cc620991955f686215084d6d25f725ad62cd", func := "theodolite/theodolitelaw18.HdrPlays", spec := "hdrPlays", unfollowed := true, recurses := true, named := ["math/bits.divideError", "math/bits.overflowError"], apart := false, narrowed := true }
def HdrPlaysUptoSaid : Prop := hdrPlaysUptoRow.holds Tryz.pinned (OpenSpec.upto hdrPlaysSpec)

/-- 'theodolitelaw18.HdrAsks', WHERE WHAT IT READS IS OF BULK AT MOST 1048576: true; the input reads as it did. -/
def hdrAsksUptoRow : OpenClaim := { program := "ythfcfmnaiopogaagreat", sum := "c749e0a331f92d119297e9130940cc620991955f686215084d6d25f725ad62cd", func := "theodolite/theodolitelaw18.HdrAsks", spec := "hdrAsks", unfollowed := true, recurses := true, named := ["math/bits.divideError", "math/bits.overflowError"], apart := false, narrowed := true }
def HdrAsksUptoSaid : Prop := hdrAsksUptoRow.holds Tryz.pinned (OpenSpec.upto hdrAsksSpec)

/-- 'theodolitelaw18.HdrNear', WHERE WHAT IT READS IS OF BULK AT MOST 1048576: true; the input reads as it did. -/
def hdrNearUptoRow : OpenClaim := { program := "ythfcfmnaiopogaagreat", sum := "c749e0a331f92d119297e9130940cc620991955f686215084d6d25f725ad62cd", func := "theodolite/theodolitelaw18.HdrNear", spec := "hdrNear", unfollowed := true, recurses := true, named := ["math/bits.divideError", "math/bits.overflowError"], apart := false, narrowed := true }
def HdrNearUptoSaid : Prop := hdrNearUptoRow.holds Tryz.pinned (OpenSpec.upto hdrNearSpec)

/-- 'theodolitelaw18.HdrOrder', WHERE WHAT IT READS IS OF BULK AT MOST 1048576: true; the input reads as it did. -/
def hdrOrderUptoRow : OpenClaim := { program := "ythfcfmnaiopogaagreat", sum := "c749e0a331f92d119297e9130940cc620991955f686215084d6d25f725ad62cd", func := "theodolite/theodolitelaw18.HdrOrder", spec := "hdrOrder", unfollowed := true, recurses := true, named := ["math/bits.divideError", "math/bits.overflowError"], apart := false, narrowed := true }
def HdrOrderUptoSaid : Prop := hdrOrderUptoRow.holds Tryz.pinned (OpenSpec.upto hdrOrderSpec)

/-- 'theodolitelaw18.HdrLoads', WHERE WHAT IT READS IS OF BULK AT MOST 1048576: true; the input reads as it did. -/
def hdrLoadsUptoRow : OpenClaim := { program := "ythfcfmnaiopogaagreat", sum := "c749e0a331f92d119297e9130940cc620991955f686215084d6d25f725ad62cd", func := "theodolite/theodolitelaw18.HdrLoads", spec := "hdrLoads", unfollowed := true, recurses := true, named := ["math/bits.divideError", "math/bits.overflowError"], apart := false, narrowed := true }
def HdrLoadsUptoSaid : Prop := hdrLoadsUptoRow.holds Tryz.pinned (OpenSpec.upto hdrLoadsSpec)

/-- 'theodolitelaw18.HdrSteps', WHERE WHAT IT READS IS OF BULK AT MOST 1048576: true; the input reads as it did. -/
def hdrStepsUptoRow : OpenClaim := { program := "ythfcfmnaiopogaagreat", sum := "c749e0a331f92d119297e9130940cc620991955f686215084d6d25f725ad62cd", func := "theodolite/theodolitelaw18.HdrSteps", spec := "hdrSteps", unfollowed := true, recurses := true, named := ["math/bits.divideError", "math/bits.overflowError"], apart := false, narrowed := true }
def HdrStepsUptoSaid : Prop := hdrStepsUptoRow.holds Tryz.pinned (OpenSpec.upto hdrStepsSpec)

/-- 'theodolitelaw18.HdrHalves', WHERE WHAT IT READS IS OF BULK AT MOST 1048576: true; the input reads as it did. -/
def hdrHalvesUptoRow : OpenClaim := { program := "ythfcfmnaiopogaagreat", sum := "c749e0a331f92d119297e9130940cc620991955f686215084d6d25f725ad62cd", func := "theodolite/theodolitelaw18.HdrHalves", spec := "hdrHalves", unfollowed := true, recurses := true, named := ["math/bits.divideError", "math/bits.overflowError"], apart := false, narrowed := true }
def HdrHalvesUptoSaid : Prop := hdrHalvesUptoRow.holds Tryz.pinned (OpenSpec.upto hdrHalvesSpec)

/-- 'theodolitelaw18.HdrMeans', WHERE WHAT IT READS IS OF BULK AT MOST 1048576: true; the input reads as it did. -/
def hdrMeansUptoRow : OpenClaim := { program := "ythfcfmnaiopogaagreat", sum := "c749e0a331f92d119297e9130940cc620991955f686215084d6d25f725ad62cd", func := "theodolite/theodolitelaw18.HdrMeans", spec := "hdrMeans", inPlace := ["math/bits.Add64"], unfollowed := true, recurses := true, named := ["math/bits.divideError", "math/bits.overflowError"], apart := false, narrowed := true }
def HdrMeansUptoSaid : Prop := hdrMeansUptoRow.holds Tryz.pinned (OpenSpec.upto hdrMeansSpec)

end Rows
end Go.Proofs.YthfcfmnaiopogaaGreat
