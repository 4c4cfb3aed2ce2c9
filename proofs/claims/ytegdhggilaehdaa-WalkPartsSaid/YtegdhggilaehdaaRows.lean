/-
  No cell of these rows narrows 'for every input' (looked for: loops, veiled, ifaces, maps, wideKeys, modest, calm, conditions, laid).
  DERIVED. THE GIVEN ROWS OF THIS SEAT. 5 by the template 'for every input the law returns true; each argument reads behind the call as it read before'; 0 by the template 'total and deterministic' (their statements: YtegdhggilaehdaaTotals.lean).
  GIVEN WITH THE SEED: the statements are not yours to turn. If you find one false, say at which input.
  Laid BY PROGRAM, IN A SANDBOX (cutbox-rows.mjs): the forced cells as the released guide's own fill.sh prints them over the translation ad469104119acbf4… (all of the seat's roots in one cut). By AI agents, Wed Nov 11 2026. No macro, syntax, notation, axiom, sorry.
-/
import Derived.Test.YtegdhggilaehdaaChecked
import GoSem.Claim
import GoSem.ClaimJoined
import GoSem.ClaimMapViews
import Derived.JoinedTies
import Derived.KernelRfl
namespace Go.Proofs.Ytegdhggilaehdaa
/- THE CELL 'sum', in the pinned program and in every row, IS THE sha256 OF THE DUMP (.gsa) THAT YtegdhggilaehdaaProg.lean LOADS. Nothing in Lean hashes anything: it is a label: what it is worth is what the hold of that sum in a sandbox is worth. -/
noncomputable def Try.pinned : Pinned := { name := "ytegdhggilaehdaa", sum := "ad469104119acbf42f58186e6f19df5fdad6f349799bc4b6d8852c1671cd5a9e", checked := Try.checked }
namespace Rows
def none {H : Type} : Left H := { results := [], args := [] }

/-- 'theodolitelaw16.WalkMakes': WHATEVER THE INPUT: true; the input reads as it did. -/
def walkMakesSpec : ChangeSpec := { name := "walkMakes", fn := fun _ => fun
  | [d] => { results := [.lit (.bool true)], args := [d] }
  | _ => none }
def walkMakesRow : OpenClaim := { program := "ytegdhggilaehdaa", sum := "ad469104119acbf42f58186e6f19df5fdad6f349799bc4b6d8852c1671cd5a9e", func := "theodolite/theodolitelaw16.WalkMakes", spec := "walkMakes", unfollowed := true, recurses := true, named := ["math/bits.divideError", "math/bits.overflowError"], apart := false }
def WalkMakesSaid : Prop := walkMakesRow.holds Try.pinned (OpenSpec.ofChange walkMakesSpec)

/-- ITS FALSE NEIGHBOUR: 'it returns false'. Refute it at one input. -/
def walkMakesWrong : ChangeSpec := { name := "walkMakes", fn := fun _ => fun
  | [d] => { results := [.lit (.bool false)], args := [d] }
  | _ => none }
def WalkMakesWrongFalsely : Prop := walkMakesRow.holds Try.pinned (OpenSpec.ofChange walkMakesWrong)

/-- 'theodolitelaw16.WalkKeys': WHATEVER THE INPUT: true; the input reads as it did. -/
def walkKeysSpec : ChangeSpec := { name := "walkKeys", fn := fun _ => fun
  | [d1, d2, d3, d4, d5] => { results := [.lit (.bool true)], args := [d1, d2, d3, d4, d5] }
  | _ => none }
def walkKeysRow : OpenClaim := { program := "ytegdhggilaehdaa", sum := "ad469104119acbf42f58186e6f19df5fdad6f349799bc4b6d8852c1671cd5a9e", func := "theodolite/theodolitelaw16.WalkKeys", spec := "walkKeys", unfollowed := true, recurses := true, named := ["math/bits.divideError", "math/bits.overflowError"], apart := false }
def WalkKeysSaid : Prop := walkKeysRow.holds Try.pinned (OpenSpec.ofChange walkKeysSpec)

/-- ITS FALSE NEIGHBOUR: 'it returns false'. Refute it at one input. -/
def walkKeysWrong : ChangeSpec := { name := "walkKeys", fn := fun _ => fun
  | [d1, d2, d3, d4, d5] => { results := [.lit (.bool false)], args := [d1, d2, d3, d4, d5] }
  | _ => none }
def WalkKeysWrongFalsely : Prop := walkKeysRow.holds Try.pinned (OpenSpec.ofChange walkKeysWrong)

/-- 'theodolitelaw16.WalkShares': WHATEVER THE INPUT: true; the input reads as it did. -/
def walkSharesSpec : ChangeSpec := { name := "walkShares", fn := fun _ => fun
  | [d1, d2] => { results := [.lit (.bool true)], args := [d1, d2] }
  | _ => none }
def walkSharesRow : OpenClaim := { program := "ytegdhggilaehdaa", sum := "ad469104119acbf42f58186e6f19df5fdad6f349799bc4b6d8852c1671cd5a9e", func := "theodolite/theodolitelaw16.WalkShares", spec := "walkShares", unfollowed := true, recurses := true, named := ["math/bits.divideError", "math/bits.overflowError"], apart := false }
def WalkSharesSaid : Prop := walkSharesRow.holds Try.pinned (OpenSpec.ofChange walkSharesSpec)

/-- ITS FALSE NEIGHBOUR: 'it returns false'. Refute it at one input. -/
def walkSharesWrong : ChangeSpec := { name := "walkShares", fn := fun _ => fun
  | [d1, d2] => { results := [.lit (.bool false)], args := [d1, d2] }
  | _ => none }
def WalkSharesWrongFalsely : Prop := walkSharesRow.holds Try.pinned (OpenSpec.ofChange walkSharesWrong)

/-- 'theodolitelaw16.WalkParts': WHATEVER THE INPUT: true; the input reads as it did. -/
def walkPartsSpec : ChangeSpec := { name := "walkParts", fn := fun _ => fun
  | [d1, d2] => { results := [.lit (.bool true)], args := [d1, d2] }
  | _ => none }
def walkPartsRow : OpenClaim := { program := "ytegdhggilaehdaa", sum := "ad469104119acbf42f58186e6f19df5fdad6f349799bc4b6d8852c1671cd5a9e", func := "theodolite/theodolitelaw16.WalkParts", spec := "walkParts", unfollowed := true, recurses := true, named := ["math/bits.divideError", "math/bits.overflowError"], apart := false }
def WalkPartsSaid : Prop := walkPartsRow.holds Try.pinned (OpenSpec.ofChange walkPartsSpec)

/-- ITS FALSE NEIGHBOUR: 'it returns false'. Refute it at one input. -/
def walkPartsWrong : ChangeSpec := { name := "walkParts", fn := fun _ => fun
  | [d1, d2] => { results := [.lit (.bool false)], args := [d1, d2] }
  | _ => none }
def WalkPartsWrongFalsely : Prop := walkPartsRow.holds Try.pinned (OpenSpec.ofChange walkPartsWrong)

/-- 'theodolitelaw16.WalkSteps': WHATEVER THE INPUT: true; the input reads as it did. -/
def walkStepsSpec : ChangeSpec := { name := "walkSteps", fn := fun _ => fun
  | [d1, d2] => { results := [.lit (.bool true)], args := [d1, d2] }
  | _ => none }
def walkStepsRow : OpenClaim := { program := "ytegdhggilaehdaa", sum := "ad469104119acbf42f58186e6f19df5fdad6f349799bc4b6d8852c1671cd5a9e", func := "theodolite/theodolitelaw16.WalkSteps", spec := "walkSteps", unfollowed := true, recurses := true, named := ["math/bits.divideError", "math/bits.overflowError"], apart := false }
def WalkStepsSaid : Prop := walkStepsRow.holds Try.pinned (OpenSpec.ofChange walkStepsSpec)

/-- ITS FALSE NEIGHBOUR: 'it returns false'. Refute it at one input. -/
def walkStepsWrong : ChangeSpec := { name := "walkSteps", fn := fun _ => fun
  | [d1, d2] => { results := [.lit (.bool false)], args := [d1, d2] }
  | _ => none }
def WalkStepsWrongFalsely : Prop := walkStepsRow.holds Try.pinned (OpenSpec.ofChange walkStepsWrong)

/- THE SECOND FORM. 'bulk': how many values and letters a reading holds, each counted each time it is reached (what is shared counts as often as it is met; a slice's spare places count too). A statement '..UptoSaid' is the law's where the arguments, and the package variables that the reading takes, are together of bulk at most 1048576: NARROWER than '..Said'. Prove '..Said' where nothing that the law and all that it calls make is longer than what came in: it says more and counts as full. Else prove '..UptoSaid'. A law counts once. -/
mutual
def uptoBulk {H : Type} : DataW H → Nat
  | .lit (.string bytes) => bytes.length + 1
  | .lit _ => 1
  | .nil => 1
  | .ptr d => uptoBulk d + 1
  | .slice elems spare => uptoBulkAll elems + uptoBulkAll spare + 1
  | .agg parts => uptoBulkAll parts + 1
  | .iface _ d => uptoBulk d + 1
  | .map entries => uptoBulkEntries entries + 1
  | .held _ => 1
def uptoBulkAll {H : Type} : List (DataW H) → Nat
  | [] => 0
  | d :: r => uptoBulk d + uptoBulkAll r
def uptoBulkEntries {H : Type} : List (Lit × DataW H) → Nat
  | [] => 0
  | x :: r => uptoBulkEntry x + uptoBulkEntries r
def uptoBulkEntry {H : Type} : Lit × DataW H → Nat
  | (.string bytes, d) => bytes.length + uptoBulk d + 1
  | (_, d) => uptoBulk d + 1
 end
def uptoSmall : (H : Type) → List (DataW H) → Bool := fun _ ds => decide (uptoBulkAll ds ≤ 1048576)
def OpenSpec.upto (s : _root_.Go.ChangeSpec) : _root_.Go.OpenSpec := { _root_.Go.OpenSpec.ofChange s with cond := some uptoSmall }

/-- 'theodolitelaw16.WalkMakes', WHERE WHAT IT READS IS OF BULK AT MOST 1048576: true; the input reads as it did. -/
def walkMakesUptoRow : OpenClaim := { program := "ytegdhggilaehdaa", sum := "ad469104119acbf42f58186e6f19df5fdad6f349799bc4b6d8852c1671cd5a9e", func := "theodolite/theodolitelaw16.WalkMakes", spec := "walkMakes", unfollowed := true, recurses := true, named := ["math/bits.divideError", "math/bits.overflowError"], apart := false, narrowed := true }
def WalkMakesUptoSaid : Prop := walkMakesUptoRow.holds Try.pinned (OpenSpec.upto walkMakesSpec)

/-- 'theodolitelaw16.WalkKeys', WHERE WHAT IT READS IS OF BULK AT MOST 1048576: true; the input reads as it did. -/
def walkKeysUptoRow : OpenClaim := { program := "ytegdhggilaehdaa", sum := "ad469104119acbf42f58186e6f19df5fdad6f349799bc4b6d8852c1671cd5a9e", func := "theodolite/theodolitelaw16.WalkKeys", spec := "walkKeys", unfollowed := true, recurses := true, named := ["math/bits.divideError", "math/bits.overflowError"], apart := false, narrowed := true }
def WalkKeysUptoSaid : Prop := walkKeysUptoRow.holds Try.pinned (OpenSpec.upto walkKeysSpec)

/-- 'theodolitelaw16.WalkShares', WHERE WHAT IT READS IS OF BULK AT MOST 1048576: true; the input reads as it did. -/
def walkSharesUptoRow : OpenClaim := { program := "ytegdhggilaehdaa", sum := "ad469104119acbf42f58186e6f19df5fdad6f349799bc4b6d8852c1671cd5a9e", func := "theodolite/theodolitelaw16.WalkShares", spec := "walkShares", unfollowed := true, recurses := true, named := ["math/bits.divideError", "math/bits.overflowError"], apart := false, narrowed := true }
def WalkSharesUptoSaid : Prop := walkSharesUptoRow.holds Try.pinned (OpenSpec.upto walkSharesSpec)

/-- 'theodolitelaw16.WalkParts', WHERE WHAT IT READS IS OF BULK AT MOST 1048576: true; the input reads as it did. -/
def walkPartsUptoRow : OpenClaim := { program := "ytegdhggilaehdaa", sum := "ad469104119acbf42f58186e6f19df5fdad6f349799bc4b6d8852c1671cd5a9e", func := "theodolite/theodolitelaw16.WalkParts", spec := "walkParts", unfollowed := true, recurses := true, named := ["math/bits.divideError", "math/bits.overflowError"], apart := false, narrowed := true }
def WalkPartsUptoSaid : Prop := walkPartsUptoRow.holds Try.pinned (OpenSpec.upto walkPartsSpec)

/-- 'theodolitelaw16.WalkSteps', WHERE WHAT IT READS IS OF BULK AT MOST 1048576: true; the input reads as it did. -/
def walkStepsUptoRow : OpenClaim := { program := "ytegdhggilaehdaa", sum := "ad469104119acbf42f58186e6f19df5fdad6f349799bc4b6d8852c1671cd5a9e", func := "theodolite/theodolitelaw16.WalkSteps", spec := "walkSteps", unfollowed := true, recurses := true, named := ["math/bits.divideError", "math/bits.overflowError"], apart := false, narrowed := true }
def WalkStepsUptoSaid : Prop := walkStepsUptoRow.holds Try.pinned (OpenSpec.upto walkStepsSpec)

end Rows
end Go.Proofs.Ytegdhggilaehdaa
