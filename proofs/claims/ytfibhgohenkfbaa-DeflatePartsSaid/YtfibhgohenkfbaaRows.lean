/-
  No cell of these rows narrows 'for every input' (looked for: loops, veiled, ifaces, maps, wideKeys, modest, calm, conditions, laid).
  DERIVED. THE GIVEN ROWS OF THIS SEAT. 4 by the template 'for every input the law returns true; each argument reads behind the call as it read before'; 0 by the template 'total and deterministic' (their statements: YtfibhgohenkfbaaTotals.lean).
  GIVEN WITH THE SEED: the statements are not yours to turn. If you find one false, say at which input.
  Laid BY PROGRAM, IN A SANDBOX (cutbox-rows.mjs): the forced cells as the released guide's own fill.sh prints them over the translation 7d9873ac56cd16e2… (all of the seat's roots in one cut). By AI agents, Wed Nov 11 2026. No macro, syntax, notation, axiom, sorry.
-/
import Derived.Test.YtfibhgohenkfbaaChecked
import GoSem.Claim
import GoSem.ClaimJoined
import GoSem.ClaimMapViews
import Derived.JoinedTies
import Derived.KernelRfl
namespace Go.Proofs.Ytfibhgohenkfbaa
/- THE CELL 'sum', in the pinned program and in every row, IS THE sha256 OF THE DUMP (.gsa) THAT YtfibhgohenkfbaaProg.lean LOADS. Nothing in Lean hashes anything: it is a label: what it is worth is what the hold of that sum in a sandbox is worth. -/
noncomputable def Try.pinned : Pinned := { name := "ytfibhgohenkfbaa", sum := "7d9873ac56cd16e2da46edae1b5e8af01172b41d9c533c26cb1b4c854c58cebe", checked := Try.checked }
namespace Rows
def none {H : Type} : Left H := { results := [], args := [] }

/-- 'theodolitelaw08.DeflateWrites': WHATEVER THE INPUT: true; the input reads as it did. -/
def deflateWritesSpec : ChangeSpec := { name := "deflateWrites", fn := fun _ => fun
  | [d1, d2] => { results := [.lit (.bool true)], args := [d1, d2] }
  | _ => none }
def deflateWritesRow : OpenClaim := { program := "ytfibhgohenkfbaa", sum := "7d9873ac56cd16e2da46edae1b5e8af01172b41d9c533c26cb1b4c854c58cebe", func := "theodolite/theodolitelaw08.DeflateWrites", spec := "deflateWrites", inPlace := ["internal/bytealg.MakeNoZero"], unfollowed := true, recurses := true, plainKeys := false, apart := false }
def DeflateWritesSaid : Prop := deflateWritesRow.holds Try.pinned (OpenSpec.ofChange deflateWritesSpec)

/-- ITS FALSE NEIGHBOUR: 'it returns false'. Refute it at one input. -/
def deflateWritesWrong : ChangeSpec := { name := "deflateWrites", fn := fun _ => fun
  | [d1, d2] => { results := [.lit (.bool false)], args := [d1, d2] }
  | _ => none }
def DeflateWritesWrongFalsely : Prop := deflateWritesRow.holds Try.pinned (OpenSpec.ofChange deflateWritesWrong)

/-- 'theodolitelaw08.DeflateShort': WHATEVER THE INPUT: true; the input reads as it did. -/
def deflateShortSpec : ChangeSpec := { name := "deflateShort", fn := fun _ => fun
  | [d1, d2] => { results := [.lit (.bool true)], args := [d1, d2] }
  | _ => none }
def deflateShortRow : OpenClaim := { program := "ytfibhgohenkfbaa", sum := "7d9873ac56cd16e2da46edae1b5e8af01172b41d9c533c26cb1b4c854c58cebe", func := "theodolite/theodolitelaw08.DeflateShort", spec := "deflateShort", inPlace := ["internal/bytealg.MakeNoZero"], unfollowed := true, recurses := true, plainKeys := false, apart := false }
def DeflateShortSaid : Prop := deflateShortRow.holds Try.pinned (OpenSpec.ofChange deflateShortSpec)

/-- ITS FALSE NEIGHBOUR: 'it returns false'. Refute it at one input. -/
def deflateShortWrong : ChangeSpec := { name := "deflateShort", fn := fun _ => fun
  | [d1, d2] => { results := [.lit (.bool false)], args := [d1, d2] }
  | _ => none }
def DeflateShortWrongFalsely : Prop := deflateShortRow.holds Try.pinned (OpenSpec.ofChange deflateShortWrong)

/-- 'theodolitelaw08.DeflateParts': WHATEVER THE INPUT: true; the input reads as it did. -/
def deflatePartsSpec : ChangeSpec := { name := "deflateParts", fn := fun _ => fun
  | [d1, d2] => { results := [.lit (.bool true)], args := [d1, d2] }
  | _ => none }
def deflatePartsRow : OpenClaim := { program := "ytfibhgohenkfbaa", sum := "7d9873ac56cd16e2da46edae1b5e8af01172b41d9c533c26cb1b4c854c58cebe", func := "theodolite/theodolitelaw08.DeflateParts", spec := "deflateParts", inPlace := ["internal/bytealg.MakeNoZero"], unfollowed := true, recurses := true, plainKeys := false, apart := false }
def DeflatePartsSaid : Prop := deflatePartsRow.holds Try.pinned (OpenSpec.ofChange deflatePartsSpec)

/-- ITS FALSE NEIGHBOUR: 'it returns false'. Refute it at one input. -/
def deflatePartsWrong : ChangeSpec := { name := "deflateParts", fn := fun _ => fun
  | [d1, d2] => { results := [.lit (.bool false)], args := [d1, d2] }
  | _ => none }
def DeflatePartsWrongFalsely : Prop := deflatePartsRow.holds Try.pinned (OpenSpec.ofChange deflatePartsWrong)

/-- 'theodolitelaw08.DeflateSymbols': WHATEVER THE INPUT: true; the input reads as it did. -/
def deflateSymbolsSpec : ChangeSpec := { name := "deflateSymbols", fn := fun _ => fun
  | [d1, d2] => { results := [.lit (.bool true)], args := [d1, d2] }
  | _ => none }
def deflateSymbolsRow : OpenClaim := { program := "ytfibhgohenkfbaa", sum := "7d9873ac56cd16e2da46edae1b5e8af01172b41d9c533c26cb1b4c854c58cebe", func := "theodolite/theodolitelaw08.DeflateSymbols", spec := "deflateSymbols", inPlace := ["internal/bytealg.MakeNoZero"], unfollowed := true, recurses := true, plainKeys := false, apart := false }
def DeflateSymbolsSaid : Prop := deflateSymbolsRow.holds Try.pinned (OpenSpec.ofChange deflateSymbolsSpec)

/-- ITS FALSE NEIGHBOUR: 'it returns false'. Refute it at one input. -/
def deflateSymbolsWrong : ChangeSpec := { name := "deflateSymbols", fn := fun _ => fun
  | [d1, d2] => { results := [.lit (.bool false)], args := [d1, d2] }
  | _ => none }
def DeflateSymbolsWrongFalsely : Prop := deflateSymbolsRow.holds Try.pinned (OpenSpec.ofChange deflateSymbolsWrong)

/- THE SECOND FORM. 'bulk': how many values and letters a reading holds, each counted each time it is reached (what is shared counts as often as it is met; a slice's spare places count too). A statement '..UptoSaid' is the law's where the arguments, and the package variables that the reading takes, are together of bulk at most 1048576: NARROWER than '..Said'. Prove '..Said' where nothing that the law and all that it calls make is longer than what came in: it says more and counts as full. Else prove '..UptoSaid'. A law counts once. -/
mutual
def uptoBulk {H : Type} : DataW H → Nat
  | .lit (.string bytes) => bytes.length + 1
  | .lit _ => 1
  | .nil => 1
  | .ptr d => uptoBulk d + 1
  | .slice elems spare => uptoBulkAll elems + uptoBulkAll spare + 1
  | .agg parts => uptoBulkAll parts + 1
  | .iface _ d => uptoBulk d + 1
  | .map entries => uptoBulkEntries entries + 1
  | .held _ => 1
def uptoBulkAll {H : Type} : List (DataW H) → Nat
  | [] => 0
  | d :: r => uptoBulk d + uptoBulkAll r
def uptoBulkEntries {H : Type} : List (Lit × DataW H) → Nat
  | [] => 0
  | x :: r => uptoBulkEntry x + uptoBulkEntries r
def uptoBulkEntry {H : Type} : Lit × DataW H → Nat
  | (.string bytes, d) => bytes.length + uptoBulk d + 1
  | (_, d) => uptoBulk d + 1
 end
def uptoSmall : (H : Type) → List (DataW H) → Bool := fun _ ds => decide (uptoBulkAll ds ≤ 1048576)
def OpenSpec.upto (s : _root_.Go.ChangeSpec) : _root_.Go.OpenSpec := { _root_.Go.OpenSpec.ofChange s with cond := some uptoSmall }

/-- 'theodolitelaw08.DeflateWrites', WHERE WHAT IT READS IS OF BULK AT MOST 1048576: true; the input reads as it did. -/
def deflateWritesUptoRow : OpenClaim := { program := "ytfibhgohenkfbaa", sum := "7d9873ac56cd16e2da46edae1b5e8af01172b41d9c533c26cb1b4c854c58cebe", func := "theodolite/theodolitelaw08.DeflateWrites", spec := "deflateWrites", inPlace := ["internal/bytealg.MakeNoZero"], unfollowed := true, recurses := true, plainKeys := false, apart := false, narrowed := true }
def DeflateWritesUptoSaid : Prop := deflateWritesUptoRow.holds Try.pinned (OpenSpec.upto deflateWritesSpec)

/-- 'theodolitelaw08.DeflateShort', WHERE WHAT IT READS IS OF BULK AT MOST 1048576: true; the input reads as it did. -/
def deflateShortUptoRow : OpenClaim := { program := "ytfibhgohenkfbaa", sum := "7d9873ac56cd16e2da46edae1b5e8af01172b41d9c533c26cb1b4c854c58cebe", func := "theodolite/theodolitelaw08.DeflateShort", spec := "deflateShort", inPlace := ["internal/bytealg.MakeNoZero"], unfollowed := true, recurses := true, plainKeys := false, apart := false, narrowed := true }
def DeflateShortUptoSaid : Prop := deflateShortUptoRow.holds Try.pinned (OpenSpec.upto deflateShortSpec)

/-- 'theodolitelaw08.DeflateParts', WHERE WHAT IT READS IS OF BULK AT MOST 1048576: true; the input reads as it did. -/
def deflatePartsUptoRow : OpenClaim := { program := "ytfibhgohenkfbaa", sum := "7d9873ac56cd16e2da46edae1b5e8af01172b41d9c533c26cb1b4c854c58cebe", func := "theodolite/theodolitelaw08.DeflateParts", spec := "deflateParts", inPlace := ["internal/bytealg.MakeNoZero"], unfollowed := true, recurses := true, plainKeys := false, apart := false, narrowed := true }
def DeflatePartsUptoSaid : Prop := deflatePartsUptoRow.holds Try.pinned (OpenSpec.upto deflatePartsSpec)

/-- 'theodolitelaw08.DeflateSymbols', WHERE WHAT IT READS IS OF BULK AT MOST 1048576: true; the input reads as it did. -/
def deflateSymbolsUptoRow : OpenClaim := { program := "ytfibhgohenkfbaa", sum := "7d9873ac56cd16e2da46edae1b5e8af01172b41d9c533c26cb1b4c854c58cebe", func := "theodolite/theodolitelaw08.DeflateSymbols", spec := "deflateSymbols", inPlace := ["internal/bytealg.MakeNoZero"], unfollowed := true, recurses := true, plainKeys := false, apart := false, narrowed := true }
def DeflateSymbolsUptoSaid : Prop := deflateSymbolsUptoRow.holds Try.pinned (OpenSpec.upto deflateSymbolsSpec)

end Rows
end Go.Proofs.Ytfibhgohenkfbaa
