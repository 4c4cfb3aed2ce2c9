/-
  No cell of these rows narrows 'for every input' (looked for: loops, veiled, ifaces, maps, wideKeys, modest, calm, conditions, laid).
  DERIVED. THE GIVEN ROWS OF THIS SEAT. 5 by the template 'for every input the law returns true; each argument reads behind the call as it read before'; 0 by the template 'total and deterministic' (their statements: YtibgjmlgjmnheaaTotals.lean).
  GIVEN WITH THE SEED: the statements are not yours to turn. If you find one false, say at which input.
  Laid BY PROGRAM, IN A SANDBOX (cutbox-rows.mjs): the forced cells as the released guide's own fill.sh prints them over the translation 7aad8ef3279a5caa… (all of the seat's roots in one cut). By AI agents, Wed Nov 11 2026. No macro, syntax, notation, axiom, sorry.
-/
import Derived.Test.YtibgjmlgjmnheaaChecked
import GoSem.Claim
import GoSem.ClaimJoined
import GoSem.ClaimMapViews
import Derived.JoinedTies
import Derived.KernelRfl
namespace Go.Proofs.Ytibgjmlgjmnheaa
/- THE CELL 'sum', in the pinned program and in every row, IS THE sha256 OF THE DUMP (.gsa) THAT YtibgjmlgjmnheaaProg.lean LOADS. Nothing in Lean hashes anything: it is a label: what it is worth is what the hold of that sum in a sandbox is worth. -/
noncomputable def Try.pinned : Pinned := { name := "ytibgjmlgjmnheaa", sum := "7aad8ef3279a5caafbdf2abb39cfe1c5f0d345a45cd7d7910001103604b5d577", checked := Try.checked }
namespace Rows
def none {H : Type} : Left H := { results := [], args := [] }

/-- 'theodolitelaw15.CollapsePlays': WHATEVER THE INPUT: true; the input reads as it did. -/
def collapsePlaysSpec : ChangeSpec := { name := "collapsePlays", fn := fun _ => fun
  | [d1, d2] => { results := [.lit (.bool true)], args := [d1, d2] }
  | _ => none }
def collapsePlaysRow : OpenClaim := { program := "ytibgjmlgjmnheaa", sum := "7aad8ef3279a5caafbdf2abb39cfe1c5f0d345a45cd7d7910001103604b5d577", func := "theodolite/theodolitelaw15.CollapsePlays", spec := "collapsePlays", inPlace := ["slices.overlaps[theodolite/api.Pair]"], unfollowed := true, recurses := true, apart := false }
def CollapsePlaysSaid : Prop := collapsePlaysRow.holds Try.pinned (OpenSpec.ofChange collapsePlaysSpec)

/-- ITS FALSE NEIGHBOUR: 'it returns false'. Refute it at one input. -/
def collapsePlaysWrong : ChangeSpec := { name := "collapsePlays", fn := fun _ => fun
  | [d1, d2] => { results := [.lit (.bool false)], args := [d1, d2] }
  | _ => none }
def CollapsePlaysWrongFalsely : Prop := collapsePlaysRow.holds Try.pinned (OpenSpec.ofChange collapsePlaysWrong)

/-- 'theodolitelaw15.CollapseKeys': WHATEVER THE INPUT: true; the input reads as it did. -/
def collapseKeysSpec : ChangeSpec := { name := "collapseKeys", fn := fun _ => fun
  | [d1, d2, d3] => { results := [.lit (.bool true)], args := [d1, d2, d3] }
  | _ => none }
def collapseKeysRow : OpenClaim := { program := "ytibgjmlgjmnheaa", sum := "7aad8ef3279a5caafbdf2abb39cfe1c5f0d345a45cd7d7910001103604b5d577", func := "theodolite/theodolitelaw15.CollapseKeys", spec := "collapseKeys", inPlace := ["slices.overlaps[theodolite/api.Pair]"], unfollowed := true, recurses := true, apart := false }
def CollapseKeysSaid : Prop := collapseKeysRow.holds Try.pinned (OpenSpec.ofChange collapseKeysSpec)

/-- ITS FALSE NEIGHBOUR: 'it returns false'. Refute it at one input. -/
def collapseKeysWrong : ChangeSpec := { name := "collapseKeys", fn := fun _ => fun
  | [d1, d2, d3] => { results := [.lit (.bool false)], args := [d1, d2, d3] }
  | _ => none }
def CollapseKeysWrongFalsely : Prop := collapseKeysRow.holds Try.pinned (OpenSpec.ofChange collapseKeysWrong)

/-- 'theodolitelaw15.CollapseVague': WHATEVER THE INPUT: true; the input reads as it did. -/
def collapseVagueSpec : ChangeSpec := { name := "collapseVague", fn := fun _ => fun
  | [d1, d2, d3] => { results := [.lit (.bool true)], args := [d1, d2, d3] }
  | _ => none }
def collapseVagueRow : OpenClaim := { program := "ytibgjmlgjmnheaa", sum := "7aad8ef3279a5caafbdf2abb39cfe1c5f0d345a45cd7d7910001103604b5d577", func := "theodolite/theodolitelaw15.CollapseVague", spec := "collapseVague", inPlace := ["slices.overlaps[theodolite/api.Pair]"], unfollowed := true, recurses := true, apart := false }
def CollapseVagueSaid : Prop := collapseVagueRow.holds Try.pinned (OpenSpec.ofChange collapseVagueSpec)

/-- ITS FALSE NEIGHBOUR: 'it returns false'. Refute it at one input. -/
def collapseVagueWrong : ChangeSpec := { name := "collapseVague", fn := fun _ => fun
  | [d1, d2, d3] => { results := [.lit (.bool false)], args := [d1, d2, d3] }
  | _ => none }
def CollapseVagueWrongFalsely : Prop := collapseVagueRow.holds Try.pinned (OpenSpec.ofChange collapseVagueWrong)

/-- 'theodolitelaw15.CollapseOrder': WHATEVER THE INPUT: true; the input reads as it did. -/
def collapseOrderSpec : ChangeSpec := { name := "collapseOrder", fn := fun _ => fun
  | [d1, d2, d3] => { results := [.lit (.bool true)], args := [d1, d2, d3] }
  | _ => none }
def collapseOrderRow : OpenClaim := { program := "ytibgjmlgjmnheaa", sum := "7aad8ef3279a5caafbdf2abb39cfe1c5f0d345a45cd7d7910001103604b5d577", func := "theodolite/theodolitelaw15.CollapseOrder", spec := "collapseOrder", inPlace := ["slices.overlaps[theodolite/api.Pair]"], unfollowed := true, recurses := true, apart := false }
def CollapseOrderSaid : Prop := collapseOrderRow.holds Try.pinned (OpenSpec.ofChange collapseOrderSpec)

/-- ITS FALSE NEIGHBOUR: 'it returns false'. Refute it at one input. -/
def collapseOrderWrong : ChangeSpec := { name := "collapseOrder", fn := fun _ => fun
  | [d1, d2, d3] => { results := [.lit (.bool false)], args := [d1, d2, d3] }
  | _ => none }
def CollapseOrderWrongFalsely : Prop := collapseOrderRow.holds Try.pinned (OpenSpec.ofChange collapseOrderWrong)

/-- 'theodolitelaw15.CollapseAgain': WHATEVER THE INPUT: true; the input reads as it did. -/
def collapseAgainSpec : ChangeSpec := { name := "collapseAgain", fn := fun _ => fun
  | [d1, d2, d3] => { results := [.lit (.bool true)], args := [d1, d2, d3] }
  | _ => none }
def collapseAgainRow : OpenClaim := { program := "ytibgjmlgjmnheaa", sum := "7aad8ef3279a5caafbdf2abb39cfe1c5f0d345a45cd7d7910001103604b5d577", func := "theodolite/theodolitelaw15.CollapseAgain", spec := "collapseAgain", inPlace := ["slices.overlaps[theodolite/api.Pair]"], unfollowed := true, recurses := true, apart := false }
def CollapseAgainSaid : Prop := collapseAgainRow.holds Try.pinned (OpenSpec.ofChange collapseAgainSpec)

/-- ITS FALSE NEIGHBOUR: 'it returns false'. Refute it at one input. -/
def collapseAgainWrong : ChangeSpec := { name := "collapseAgain", fn := fun _ => fun
  | [d1, d2, d3] => { results := [.lit (.bool false)], args := [d1, d2, d3] }
  | _ => none }
def CollapseAgainWrongFalsely : Prop := collapseAgainRow.holds Try.pinned (OpenSpec.ofChange collapseAgainWrong)

/- THE SECOND FORM. 'bulk': how many values and letters a reading holds, each counted each time it is reached (what is shared counts as often as it is met; a slice's spare places count too). A statement '..UptoSaid' is the law's where the arguments, and the package variables that the reading takes, are together of bulk at most 1048576: NARROWER than '..Said'. Prove '..Said' where nothing that the law and all that it calls make is longer than what came in: it says more and counts as full. Else prove '..UptoSaid'. A law counts once. -/
mutual
def uptoBulk {H : Type} : DataW H → Nat
  | .lit (.string bytes) => bytes.length + 1
  | .lit _ => 1
  | .nil => 1
  | .ptr d => uptoBulk d + 1
  | .slice elems spare => uptoBulkAll elems + uptoBulkAll spare + 1
  | .agg parts => uptoBulkAll parts + 1
  | .iface _ d => uptoBulk d + 1
  | .map entries => uptoBulkEntries entries + 1
  | .held _ => 1
def uptoBulkAll {H : Type} : List (DataW H) → Nat
  | [] => 0
  | d :: r => uptoBulk d + uptoBulkAll r
def uptoBulkEntries {H : Type} : List (Lit × DataW H) → Nat
  | [] => 0
  | x :: r => uptoBulkEntry x + uptoBulkEntries r
def uptoBulkEntry {H : Type} : Lit × DataW H → Nat
  | (.string bytes, d) => bytes.length + uptoBulk d + 1
  | (_, d) => uptoBulk d + 1
 end
def uptoSmall : (H : Type) → List (DataW H) → Bool := fun _ ds => decide (uptoBulkAll ds ≤ 1048576)
def OpenSpec.upto (s : _root_.Go.ChangeSpec) : _root_.Go.OpenSpec := { _root_.Go.OpenSpec.ofChange s with cond := some uptoSmall }

/-- 'theodolitelaw15.CollapsePlays', WHERE WHAT IT READS IS OF BULK AT MOST 1048576: true; the input reads as it did. -/
def collapsePlaysUptoRow : OpenClaim := { program := "ytibgjmlgjmnheaa", sum := "7aad8ef3279a5caafbdf2abb39cfe1c5f0d345a45cd7d7910001103604b5d577", func := "theodolite/theodolitelaw15.CollapsePlays", spec := "collapsePlays", inPlace := ["slices.overlaps[theodolite/api.Pair]"], unfollowed := true, recurses := true, apart := false, narrowed := true }
def CollapsePlaysUptoSaid : Prop := collapsePlaysUptoRow.holds Try.pinned (OpenSpec.upto collapsePlaysSpec)

/-- 'theodolitelaw15.CollapseKeys', WHERE WHAT IT READS IS OF BULK AT MOST 1048576: true; the input reads as it did. -/
def collapseKeysUptoRow : OpenClaim := { program := "ytibgjmlgjmnheaa", sum := "7aad8ef3279a5caafbdf2abb39cfe1c5f0d345a45cd7d7910001103604b5d577", func := "theodolite/theodolitelaw15.CollapseKeys", spec := "collapseKeys", inPlace := ["slices.overlaps[theodolite/api.Pair]"], unfollowed := true, recurses := true, apart := false, narrowed := true }
def CollapseKeysUptoSaid : Prop := collapseKeysUptoRow.holds Try.pinned (OpenSpec.upto collapseKeysSpec)

/-- 'theodolitelaw15.CollapseVague', WHERE WHAT IT READS IS OF BULK AT MOST 1048576: true; the input reads as it did. -/
def collapseVagueUptoRow : OpenClaim := { program := "ytibgjmlgjmnheaa", sum := "7aad8ef3279a5caafbdf2abb39cfe1c5f0d345a45cd7d7910001103604b5d577", func := "theodolite/theodolitelaw15.CollapseVague", spec := "collapseVague", inPlace := ["slices.overlaps[theodolite/api.Pair]"], unfollowed := true, recurses := true, apart := false, narrowed := true }
def CollapseVagueUptoSaid : Prop := collapseVagueUptoRow.holds Try.pinned (OpenSpec.upto collapseVagueSpec)

/-- 'theodolitelaw15.CollapseOrder', WHERE WHAT IT READS IS OF BULK AT MOST 1048576: true; the input reads as it did. -/
def collapseOrderUptoRow : OpenClaim := { program := "ytibgjmlgjmnheaa", sum := "7aad8ef3279a5caafbdf2abb39cfe1c5f0d345a45cd7d7910001103604b5d577", func := "theodolite/theodolitelaw15.CollapseOrder", spec := "collapseOrder", inPlace := ["slices.overlaps[theodolite/api.Pair]"], unfollowed := true, recurses := true, apart := false, narrowed := true }
def CollapseOrderUptoSaid : Prop := collapseOrderUptoRow.holds Try.pinned (OpenSpec.upto collapseOrderSpec)

/-- 'theodolitelaw15.CollapseAgain', WHERE WHAT IT READS IS OF BULK AT MOST 1048576: true; the input reads as it did. -/
def collapseAgainUptoRow : OpenClaim := { program := "ytibgjmlgjmnheaa", sum := "7aad8ef3279a5caafbdf2abb39cfe1c5f0d345a45cd7d7910001103604b5d577", func := "theodolite/theodolitelaw15.CollapseAgain", spec := "collapseAgain", inPlace := ["slices.overlaps[theodolite/api.Pair]"], unfollowed := true, recurses := true, apart := false, narrowed := true }
def CollapseAgainUptoSaid : Prop := collapseAgainUptoRow.holds Try.pinned (OpenSpec.upto collapseAgainSpec)

end Rows
end Go.Proofs.Ytibgjmlgjmnheaa
