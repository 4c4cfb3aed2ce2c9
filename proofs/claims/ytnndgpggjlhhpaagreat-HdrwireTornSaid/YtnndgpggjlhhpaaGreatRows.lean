/-
  No cell of these rows narrows 'for every input' (looked for: loops, veiled, ifaces, maps, wideKeys, modest, calm, conditions, laid).
  DERIVED. THE GIVEN ROWS OF THIS SEAT. 5 by the template 'for every input the law returns true; each argument reads behind the call as it read before'; 0 by the template 'total and deterministic' (their statements: YtnndgpggjlhhpaaGreatTotals.lean).
  GIVEN WITH THE SEED: the statements are not yours to turn. If you find one false, say at which input.
  Laid BY PROGRAM, IN A SANDBOX (cutbox-rows.mjs): the forced cells as the released guide's own fill.sh prints them over the translation e030f4d11bc90899… (all of the seat's roots in one cut). By AI agents, Wed Nov 11 2026. No macro, syntax, notation, axiom, sorry.
-/
import Derived.Test.YtnndgpggjlhhpaaGreatChecked
import GoSem.Claim
import GoSem.ClaimJoined
import GoSem.ClaimMapViews
import Derived.JoinedTies
import Derived.KernelRfl
namespace Go.Proofs.YtnndgpggjlhhpaaGreat
/- THE CELL 'sum', in the pinned program and in every row, IS THE sha256 OF THE DUMP (.gsa) THAT YtnndgpggjlhhpaaGreatProg.lean LOADS. Nothing in Lean hashes anything: it is a label: what it is worth is what the hold of that sum in a sandbox is worth. -/
noncomputable def Tryz.pinned : Pinned := { name := "ytnndgpggjlhhpaagreat", sum := "e030f4d11bc9089940f487a4bb49cfbcef2c6ef6e0881de98d60871fa6f9110c", checked := Tryz.checked }
namespace Rows
def none {H : Type} : Left H := { results := [], args := [] }

/-- 'theodolitelaw19.HdrwireWrites': WHATEVER THE INPUT: true; the input reads as it did. -/
def hdrwireWritesSpec : ChangeSpec := { name := "hdrwireWrites", fn := fun _ => fun
  | [d1, d2, d3, d4, d5, d6] => { results := [.lit (.bool true)], args := [d1, d2, d3, d4, d5, d6] }
  | _ => none }
def hdrwireWritesRow : OpenClaim := { program := "ytnndgpggjlhhpaagreat", sum := "e030f4d11bc9089940f487a4bb49cfbcef2c6ef6e0881de98d60871fa6f9110c", func := "theodolite/theodolitelaw19.HdrwireWrites", spec := "hdrwireWrites", inPlace := ["internal/abi.NoEscape", "internal/bytealg.MakeNoZero"], unfollowed := true, recurses := true, plainKeys := false, apart := false }
def HdrwireWritesSaid : Prop := hdrwireWritesRow.holds Tryz.pinned (OpenSpec.ofChange hdrwireWritesSpec)

/-- ITS FALSE NEIGHBOUR: 'it returns false'. Refute it at one input. -/
def hdrwireWritesWrong : ChangeSpec := { name := "hdrwireWrites", fn := fun _ => fun
  | [d1, d2, d3, d4, d5, d6] => { results := [.lit (.bool false)], args := [d1, d2, d3, d4, d5, d6] }
  | _ => none }
def HdrwireWritesWrongFalsely : Prop := hdrwireWritesRow.holds Tryz.pinned (OpenSpec.ofChange hdrwireWritesWrong)

/-- 'theodolitelaw19.HdrwireBack': WHATEVER THE INPUT: true; the input reads as it did. -/
def hdrwireBackSpec : ChangeSpec := { name := "hdrwireBack", fn := fun _ => fun
  | [d1, d2, d3, d4, d5, d6] => { results := [.lit (.bool true)], args := [d1, d2, d3, d4, d5, d6] }
  | _ => none }
def hdrwireBackRow : OpenClaim := { program := "ytnndgpggjlhhpaagreat", sum := "e030f4d11bc9089940f487a4bb49cfbcef2c6ef6e0881de98d60871fa6f9110c", func := "theodolite/theodolitelaw19.HdrwireBack", spec := "hdrwireBack", inPlace := ["internal/abi.NoEscape", "internal/bytealg.MakeNoZero"], unfollowed := true, recurses := true, plainKeys := false, apart := false }
def HdrwireBackSaid : Prop := hdrwireBackRow.holds Tryz.pinned (OpenSpec.ofChange hdrwireBackSpec)

/-- ITS FALSE NEIGHBOUR: 'it returns false'. Refute it at one input. -/
def hdrwireBackWrong : ChangeSpec := { name := "hdrwireBack", fn := fun _ => fun
  | [d1, d2, d3, d4, d5, d6] => { results := [.lit (.bool false)], args := [d1, d2, d3, d4, d5, d6] }
  | _ => none }
def HdrwireBackWrongFalsely : Prop := hdrwireBackRow.holds Tryz.pinned (OpenSpec.ofChange hdrwireBackWrong)

/-- 'theodolitelaw19.HdrwireReads': WHATEVER THE INPUT: true; the input reads as it did. -/
def hdrwireReadsSpec : ChangeSpec := { name := "hdrwireReads", fn := fun _ => fun
  | [d] => { results := [.lit (.bool true)], args := [d] }
  | _ => none }
def hdrwireReadsRow : OpenClaim := { program := "ytnndgpggjlhhpaagreat", sum := "e030f4d11bc9089940f487a4bb49cfbcef2c6ef6e0881de98d60871fa6f9110c", func := "theodolite/theodolitelaw19.HdrwireReads", spec := "hdrwireReads", inPlace := ["internal/abi.NoEscape", "internal/bytealg.MakeNoZero"], unfollowed := true, recurses := true, plainKeys := false, apart := false }
def HdrwireReadsSaid : Prop := hdrwireReadsRow.holds Tryz.pinned (OpenSpec.ofChange hdrwireReadsSpec)

/-- ITS FALSE NEIGHBOUR: 'it returns false'. Refute it at one input. -/
def hdrwireReadsWrong : ChangeSpec := { name := "hdrwireReads", fn := fun _ => fun
  | [d] => { results := [.lit (.bool false)], args := [d] }
  | _ => none }
def HdrwireReadsWrongFalsely : Prop := hdrwireReadsRow.holds Tryz.pinned (OpenSpec.ofChange hdrwireReadsWrong)

/-- 'theodolitelaw19.HdrwireSpoilt': WHATEVER THE INPUT: true; the input reads as it did. -/
def hdrwireSpoiltSpec : ChangeSpec := { name := "hdrwireSpoilt", fn := fun _ => fun
  | [d1, d2, d3, d4, d5, d6, d7] => { results := [.lit (.bool true)], args := [d1, d2, d3, d4, d5, d6, d7] }
  | _ => none }
def hdrwireSpoiltRow : OpenClaim := { program := "ytnndgpggjlhhpaagreat", sum := "e030f4d11bc9089940f487a4bb49cfbcef2c6ef6e0881de98d60871fa6f9110c", func := "theodolite/theodolitelaw19.HdrwireSpoilt", spec := "hdrwireSpoilt", inPlace := ["internal/abi.NoEscape", "internal/bytealg.MakeNoZero"], unfollowed := true, recurses := true, plainKeys := false, apart := false }
def HdrwireSpoiltSaid : Prop := hdrwireSpoiltRow.holds Tryz.pinned (OpenSpec.ofChange hdrwireSpoiltSpec)

/-- ITS FALSE NEIGHBOUR: 'it returns false'. Refute it at one input. -/
def hdrwireSpoiltWrong : ChangeSpec := { name := "hdrwireSpoilt", fn := fun _ => fun
  | [d1, d2, d3, d4, d5, d6, d7] => { results := [.lit (.bool false)], args := [d1, d2, d3, d4, d5, d6, d7] }
  | _ => none }
def HdrwireSpoiltWrongFalsely : Prop := hdrwireSpoiltRow.holds Tryz.pinned (OpenSpec.ofChange hdrwireSpoiltWrong)

/-- 'theodolitelaw19.HdrwireTorn': WHATEVER THE INPUT: true; the input reads as it did. -/
def hdrwireTornSpec : ChangeSpec := { name := "hdrwireTorn", fn := fun _ => fun
  | [d1, d2, d3, d4, d5] => { results := [.lit (.bool true)], args := [d1, d2, d3, d4, d5] }
  | _ => none }
def hdrwireTornRow : OpenClaim := { program := "ytnndgpggjlhhpaagreat", sum := "e030f4d11bc9089940f487a4bb49cfbcef2c6ef6e0881de98d60871fa6f9110c", func := "theodolite/theodolitelaw19.HdrwireTorn", spec := "hdrwireTorn", inPlace := ["internal/abi.NoEscape", "internal/bytealg.MakeNoZero"], unfollowed := true, recurses := true, plainKeys := false, apart := false }
def HdrwireTornSaid : Prop := hdrwireTornRow.holds Tryz.pinned (OpenSpec.ofChange hdrwireTornSpec)

/-- ITS FALSE NEIGHBOUR: 'it returns false'. Refute it at one input. -/
def hdrwireTornWrong : ChangeSpec := { name := "hdrwireTorn", fn := fun _ => fun
  | [d1, d2, d3, d4, d5] => { results := [.lit (.bool false)], args := [d1, d2, d3, d4, d5] }
  | _ => none }
def HdrwireTornWrongFalsely : Prop := hdrwireTornRow.holds Tryz.pinned (OpenSpec.ofChange hdrwireTornWrong)

/- THE SECOND FORM. 'bulk': how many values and letters a reading holds, each counted each time it is reached (what is shared counts as often as it is met; a slice's spare places count too). A statement '..UptoSaid' is the law's where the arguments, and the package variables that the reading takes, are together of bulk at most 1048576: NARROWER than '..Said'. Prove '..Said' where nothing that the law and all that it calls make is longer than what came in: it says more and counts as full. Else prove '..UptoSaid'. A law counts once. -/
mutual
def uptoBulk {H : Type} : DataW H → Nat
  | .lit (.string bytes) => bytes.length + 1
  | .lit _ => 1
  | .nil => 1
  | .ptr d => uptoBulk d + 1
  | .slice elems spare => uptoBulkAll elems + uptoBulkAll spare + 1
  | .agg parts => uptoBulkAll parts + 1
  | .iface _ d => uptoBulk d + 1
  | .map entries => uptoBulkEntries entries + 1
  | .held _ => 1
def uptoBulkAll {H : Type} : List (DataW H) → Nat
  | [] => 0
  | d :: r => uptoBulk d + uptoBulkAll r
def uptoBulkEntries {H : Type} : List (Lit × DataW H) → Nat
  | [] => 0
  | x :: r => uptoBulkEntry x + uptoBulkEntries r
def uptoBulkEntry {H : Type} : Lit × DataW H → Nat
  | (.string bytes, d) => bytes.length + uptoBulk d + 1
  | (_, d) => uptoBulk d + 1
 end
def uptoSmall : (H : Type) → List (DataW H) → Bool := fun _ ds => decide (uptoBulkAll ds ≤ 1048576)
def OpenSpec.upto (s : _root_.Go.ChangeSpec) : _root_.Go.OpenSpec := { _root_.Go.OpenSpec.ofChange s with cond := some uptoSmall }

/-- 'theodolitelaw19.HdrwireWrites', WHERE WHAT IT READS IS OF BULK AT MOST 1048576: true; the input reads as it did. -/
def hdrwireWritesUptoRow : OpenClaim := { program := "ytnndgpggjlhhpaagreat", sum := "e030f4d11bc9089940f487a4bb49cfbcef2c6ef6e0881de98d60871fa6f9110c", func := "theodolite/theodolitelaw19.HdrwireWrites", spec := "hdrwireWrites", inPlace := ["internal/abi.NoEscape", "internal/bytealg.MakeNoZero"], unfollowed := true, recurses := true, plainKeys := false, apart := false, narrowed := true }
def HdrwireWritesUptoSaid : Prop := hdrwireWritesUptoRow.holds Tryz.pinned (OpenSpec.upto hdrwireWritesSpec)

/-- 'theodolitelaw19.HdrwireBack', WHERE WHAT IT READS IS OF BULK AT MOST 1048576: true; the input reads as it did. -/
def hdrwireBackUptoRow : OpenClaim := { program := "ytnndgpggjlhhpaagreat", sum := "e030f4d11bc9089940f487a4bb49cfbcef2c6ef6e0881de98d60871fa6f9110c", func := "theodolite/theodolitelaw19.HdrwireBack", spec := "hdrwireBack", inPlace := ["internal/abi.NoEscape", "internal/bytealg.MakeNoZero"], unfollowed := true, recurses := true, plainKeys := false, apart := false, narrowed := true }
def HdrwireBackUptoSaid : Prop := hdrwireBackUptoRow.holds Tryz.pinned (OpenSpec.upto hdrwireBackSpec)

/-- 'theodolitelaw19.HdrwireReads', WHERE WHAT IT READS IS OF BULK AT MOST 1048576: true; the input reads as it did. -/
def hdrwireReadsUptoRow : OpenClaim := { program := "ytnndgpggjlhhpaagreat", sum := "e030f4d11bc9089940f487a4bb49cfbcef2c6ef6e0881de98d60871fa6f9110c", func := "theodolite/theodolitelaw19.HdrwireReads", spec := "hdrwireReads", inPlace := ["internal/abi.NoEscape", "internal/bytealg.MakeNoZero"], unfollowed := true, recurses := true, plainKeys := false, apart := false, narrowed := true }
def HdrwireReadsUptoSaid : Prop := hdrwireReadsUptoRow.holds Tryz.pinned (OpenSpec.upto hdrwireReadsSpec)

/-- 'theodolitelaw19.HdrwireSpoilt', WHERE WHAT IT READS IS OF BULK AT MOST 1048576: true; the input reads as it did. -/
def hdrwireSpoiltUptoRow : OpenClaim := { program := "ytnndgpggjlhhpaagreat", sum := "e030f4d11bc9089940f487a4bb49cfbcef2c6ef6e0881de98d60871fa6f9110c", func := "theodolite/theodolitelaw19.HdrwireSpoilt", spec := "hdrwireSpoilt", inPlace := ["internal/abi.NoEscape", "internal/bytealg.MakeNoZero"], unfollowed := true, recurses := true, plainKeys := false, apart := false, narrowed := true }
def HdrwireSpoiltUptoSaid : Prop := hdrwireSpoiltUptoRow.holds Tryz.pinned (OpenSpec.upto hdrwireSpoiltSpec)

/-- 'theodolitelaw19.HdrwireTorn', WHERE WHAT IT READS IS OF BULK AT MOST 1048576: true; the input reads as it did. -/
def hdrwireTornUptoRow : OpenClaim := { program := "ytnndgpggjlhhpaagreat", sum := "e030f4d11bc9089940f487a4bb49cfbcef2c6ef6e0881de98d60871fa6f9110c", func := "theodolite/theodolitelaw19.HdrwireTorn", spec := "hdrwireTorn", inPlace := ["internal/abi.NoEscape", "internal/bytealg.MakeNoZero"], unfollowed := true, recurses := true, plainKeys := false, apart := false, narrowed := true }
def HdrwireTornUptoSaid : Prop := hdrwireTornUptoRow.holds Tryz.pinned (OpenSpec.upto hdrwireTornSpec)

end Rows
end Go.Proofs.YtnndgpggjlhhpaaGreat
