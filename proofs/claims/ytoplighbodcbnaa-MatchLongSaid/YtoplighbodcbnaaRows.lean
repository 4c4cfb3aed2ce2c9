/-
  No cell of these rows narrows 'for every input' (looked for: loops, veiled, ifaces, maps, wideKeys, modest, calm, conditions, laid).
  DERIVED. THE GIVEN ROWS OF THIS SEAT. 4 by the template 'for every input the law returns true; each argument reads behind the call as it read before'; 0 by the template 'total and deterministic' (their statements: YtoplighbodcbnaaTotals.lean).
  GIVEN WITH THE SEED: the statements are not yours to turn. If you find one false, say at which input.
  Laid BY PROGRAM, IN A SANDBOX (cutbox-rows.mjs): the forced cells as the released guide's own fill.sh prints them over the translation ca7758b7a2cd7926… (all of the seat's roots in one cut). By AI agents, Wed Nov 11 2026. No macro, syntax, notation, axiom, sorry.
-/
import Derived.Test.YtoplighbodcbnaaChecked
import GoSem.Claim
import GoSem.ClaimJoined
import GoSem.ClaimMapViews
import Derived.JoinedTies
import Derived.KernelRfl
namespace Go.Proofs.Ytoplighbodcbnaa
/- THE CELL 'sum', in the pinned program and in every row, IS THE sha256 OF THE DUMP (.gsa) THAT YtoplighbodcbnaaProg.lean LOADS. Nothing in Lean hashes anything: it is a label: what it is worth is what the hold of that sum in a sandbox is worth. -/
noncomputable def Try.pinned : Pinned := { name := "ytoplighbodcbnaa", sum := "ca7758b7a2cd7926c02068aea559bc3a7f03f3a3dbf2e18b8030186ef98f5aef", checked := Try.checked }
namespace Rows
def none {H : Type} : Left H := { results := [], args := [] }

/-- 'theodolitelaw07.MatchFinds': WHATEVER THE INPUT: true; the input reads as it did. -/
def matchFindsSpec : ChangeSpec := { name := "matchFinds", fn := fun _ => fun
  | [d1, d2] => { results := [.lit (.bool true)], args := [d1, d2] }
  | _ => none }
def matchFindsRow : OpenClaim := { program := "ytoplighbodcbnaa", sum := "ca7758b7a2cd7926c02068aea559bc3a7f03f3a3dbf2e18b8030186ef98f5aef", func := "theodolite/theodolitelaw07.MatchFinds", spec := "matchFinds", plainKeys := false, apart := false }
def MatchFindsSaid : Prop := matchFindsRow.holds Try.pinned (OpenSpec.ofChange matchFindsSpec)

/-- ITS FALSE NEIGHBOUR: 'it returns false'. Refute it at one input. -/
def matchFindsWrong : ChangeSpec := { name := "matchFinds", fn := fun _ => fun
  | [d1, d2] => { results := [.lit (.bool false)], args := [d1, d2] }
  | _ => none }
def MatchFindsWrongFalsely : Prop := matchFindsRow.holds Try.pinned (OpenSpec.ofChange matchFindsWrong)

/-- 'theodolitelaw07.MatchLong': WHATEVER THE INPUT: true; the input reads as it did. -/
def matchLongSpec : ChangeSpec := { name := "matchLong", fn := fun _ => fun
  | [d1, d2] => { results := [.lit (.bool true)], args := [d1, d2] }
  | _ => none }
def matchLongRow : OpenClaim := { program := "ytoplighbodcbnaa", sum := "ca7758b7a2cd7926c02068aea559bc3a7f03f3a3dbf2e18b8030186ef98f5aef", func := "theodolite/theodolitelaw07.MatchLong", spec := "matchLong", plainKeys := false, apart := false }
def MatchLongSaid : Prop := matchLongRow.holds Try.pinned (OpenSpec.ofChange matchLongSpec)

/-- ITS FALSE NEIGHBOUR: 'it returns false'. Refute it at one input. -/
def matchLongWrong : ChangeSpec := { name := "matchLong", fn := fun _ => fun
  | [d1, d2] => { results := [.lit (.bool false)], args := [d1, d2] }
  | _ => none }
def MatchLongWrongFalsely : Prop := matchLongRow.holds Try.pinned (OpenSpec.ofChange matchLongWrong)

/-- 'theodolitelaw07.MatchWeighs': WHATEVER THE INPUT: true; the input reads as it did. -/
def matchWeighsSpec : ChangeSpec := { name := "matchWeighs", fn := fun _ => fun
  | [d1, d2] => { results := [.lit (.bool true)], args := [d1, d2] }
  | _ => none }
def matchWeighsRow : OpenClaim := { program := "ytoplighbodcbnaa", sum := "ca7758b7a2cd7926c02068aea559bc3a7f03f3a3dbf2e18b8030186ef98f5aef", func := "theodolite/theodolitelaw07.MatchWeighs", spec := "matchWeighs", plainKeys := false, apart := false }
def MatchWeighsSaid : Prop := matchWeighsRow.holds Try.pinned (OpenSpec.ofChange matchWeighsSpec)

/-- ITS FALSE NEIGHBOUR: 'it returns false'. Refute it at one input. -/
def matchWeighsWrong : ChangeSpec := { name := "matchWeighs", fn := fun _ => fun
  | [d1, d2] => { results := [.lit (.bool false)], args := [d1, d2] }
  | _ => none }
def MatchWeighsWrongFalsely : Prop := matchWeighsRow.holds Try.pinned (OpenSpec.ofChange matchWeighsWrong)

/-- 'theodolitelaw07.MatchFar': WHATEVER THE INPUT: true; the input reads as it did. -/
def matchFarSpec : ChangeSpec := { name := "matchFar", fn := fun _ => fun
  | [d1, d2] => { results := [.lit (.bool true)], args := [d1, d2] }
  | _ => none }
def matchFarRow : OpenClaim := { program := "ytoplighbodcbnaa", sum := "ca7758b7a2cd7926c02068aea559bc3a7f03f3a3dbf2e18b8030186ef98f5aef", func := "theodolite/theodolitelaw07.MatchFar", spec := "matchFar", plainKeys := false, apart := false }
def MatchFarSaid : Prop := matchFarRow.holds Try.pinned (OpenSpec.ofChange matchFarSpec)

/-- ITS FALSE NEIGHBOUR: 'it returns false'. Refute it at one input. -/
def matchFarWrong : ChangeSpec := { name := "matchFar", fn := fun _ => fun
  | [d1, d2] => { results := [.lit (.bool false)], args := [d1, d2] }
  | _ => none }
def MatchFarWrongFalsely : Prop := matchFarRow.holds Try.pinned (OpenSpec.ofChange matchFarWrong)

/- THE SECOND FORM. 'bulk': how many values and letters a reading holds, each counted each time it is reached (what is shared counts as often as it is met; a slice's spare places count too). A statement '..UptoSaid' is the law's where the arguments, and the package variables that the reading takes, are together of bulk at most 1048576: NARROWER than '..Said'. Prove '..Said' where nothing that the law and all that it calls make is longer than what came in: it says more and counts as full. Else prove '..UptoSaid'. A law counts once. -/
mutual
def uptoBulk {H : Type} : DataW H → Nat
  | .lit (.string bytes) => bytes.length + 1
  | .lit _ => 1
  | .nil => 1
  | .ptr d => uptoBulk d + 1
  | .slice elems spare => uptoBulkAll elems + uptoBulkAll spare + 1
  | .agg parts => uptoBulkAll parts + 1
  | .iface _ d => uptoBulk d + 1
  | .map entries => uptoBulkEntries entries + 1
  | .held _ => 1
def uptoBulkAll {H : Type} : List (DataW H) → Nat
  | [] => 0
  | d :: r => uptoBulk d + uptoBulkAll r
def uptoBulkEntries {H : Type} : List (Lit × DataW H) → Nat
  | [] => 0
  | x :: r => uptoBulkEntry x + uptoBulkEntries r
def uptoBulkEntry {H : Type} : Lit × DataW H → Nat
  | (.string bytes, d) => bytes.length + uptoBulk d + 1
  | (_, d) => uptoBulk d + 1
 end
def uptoSmall : (H : Type) → List (DataW H) → Bool := fun _ ds => decide (uptoBulkAll ds ≤ 1048576)
def OpenSpec.upto (s : _root_.Go.ChangeSpec) : _root_.Go.OpenSpec := { _root_.Go.OpenSpec.ofChange s with cond := some uptoSmall }

/-- 'theodolitelaw07.MatchFinds', WHERE WHAT IT READS IS OF BULK AT MOST 1048576: true; the input reads as it did. -/
def matchFindsUptoRow : OpenClaim := { program := "ytoplighbodcbnaa", sum := "ca7758b7a2cd7926c02068aea559bc3a7f03f3a3dbf2e18b8030186ef98f5aef", func := "theodolite/theodolitelaw07.MatchFinds", spec := "matchFinds", plainKeys := false, apart := false, narrowed := true }
def MatchFindsUptoSaid : Prop := matchFindsUptoRow.holds Try.pinned (OpenSpec.upto matchFindsSpec)

/-- 'theodolitelaw07.MatchLong', WHERE WHAT IT READS IS OF BULK AT MOST 1048576: true; the input reads as it did. -/
def matchLongUptoRow : OpenClaim := { program := "ytoplighbodcbnaa", sum := "ca7758b7a2cd7926c02068aea559bc3a7f03f3a3dbf2e18b8030186ef98f5aef", func := "theodolite/theodolitelaw07.MatchLong", spec := "matchLong", plainKeys := false, apart := false, narrowed := true }
def MatchLongUptoSaid : Prop := matchLongUptoRow.holds Try.pinned (OpenSpec.upto matchLongSpec)

/-- 'theodolitelaw07.MatchWeighs', WHERE WHAT IT READS IS OF BULK AT MOST 1048576: true; the input reads as it did. -/
def matchWeighsUptoRow : OpenClaim := { program := "ytoplighbodcbnaa", sum := "ca7758b7a2cd7926c02068aea559bc3a7f03f3a3dbf2e18b8030186ef98f5aef", func := "theodolite/theodolitelaw07.MatchWeighs", spec := "matchWeighs", plainKeys := false, apart := false, narrowed := true }
def MatchWeighsUptoSaid : Prop := matchWeighsUptoRow.holds Try.pinned (OpenSpec.upto matchWeighsSpec)

/-- 'theodolitelaw07.MatchFar', WHERE WHAT IT READS IS OF BULK AT MOST 1048576: true; the input reads as it did. -/
def matchFarUptoRow : OpenClaim := { program := "ytoplighbodcbnaa", sum := "ca7758b7a2cd7926c02068aea559bc3a7f03f3a3dbf2e18b8030186ef98f5aef", func := "theodolite/theodolitelaw07.MatchFar", spec := "matchFar", plainKeys := false, apart := false, narrowed := true }
def MatchFarUptoSaid : Prop := matchFarUptoRow.holds Try.pinned (OpenSpec.upto matchFarSpec)

end Rows
end Go.Proofs.Ytoplighbodcbnaa
