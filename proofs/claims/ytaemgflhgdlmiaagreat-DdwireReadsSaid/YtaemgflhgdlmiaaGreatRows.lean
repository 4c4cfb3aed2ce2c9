/-
  No cell of these rows narrows 'for every input' (looked for: loops, veiled, ifaces, maps, wideKeys, modest, calm, conditions, laid).
  DERIVED. THE GIVEN ROWS OF THIS SEAT. 4 by the template 'for every input the law returns true; each argument reads behind the call as it read before'; 0 by the template 'total and deterministic' (their statements: YtaemgflhgdlmiaaGreatTotals.lean).
  GIVEN WITH THE SEED: the statements are not yours to turn. If you find one false, say at which input.
  Laid BY PROGRAM, IN A SANDBOX (cutbox-rows.mjs): the forced cells as the released guide's own fill.sh prints them over the translation 760105006ed7a724… (all of the seat's roots in one cut). By AI agents, Wed Nov 11 2026. No macro, syntax, notation, axiom, sorry.
-/
import Derived.Test.YtaemgflhgdlmiaaGreatChecked
import GoSem.Claim
import GoSem.ClaimJoined
import GoSem.ClaimMapViews
import Derived.JoinedTies
import Derived.KernelRfl
namespace Go.Proofs.YtaemgflhgdlmiaaGreat
/- THE CELL 'sum', in the pinned program and in every row, IS THE sha256 OF THE DUMP (.gsa) THAT YtaemgflhgdlmiaaGreatProg.lean LOADS. Nothing in Lean hashes anything: it is a label: what it is worth is what the hold of that sum in a sandbox is worth. -/
noncomputable def Tryz.pinned : Pinned := { name := "ytaemgflhgdlmiaagreat", sum := "760105006ed7a7249636b3a800c2d9642372b4b00a0ed50e2a4a06e5995ea8f8", checked := Tryz.checked }
namespace Rows
def none {H : Type} : Left H := { results := [], args := [] }

/-- 'theodolitelaw21.DdwireWrites': WHATEVER THE INPUT: true; the input reads as it did. -/
def ddwireWritesSpec : ChangeSpec := { name := "ddwireWrites", fn := fun _ => fun
  | [d1, d2, d3, d4] => { results := [.lit (.bool true)], args := [d1, d2, d3, d4] }
  | _ => none }
def ddwireWritesRow : OpenClaim := { program := "ytaemgflhgdlmiaagreat", sum := "760105006ed7a7249636b3a800c2d9642372b4b00a0ed50e2a4a06e5995ea8f8", func := "theodolite/theodolitelaw21.DdwireWrites", spec := "ddwireWrites", inPlace := ["slices.overlaps[theodolite/api.Pair]"], unfollowed := true, recurses := true, named := ["math/bits.divideError", "math/bits.overflowError"], apart := false }
def DdwireWritesSaid : Prop := ddwireWritesRow.holds Tryz.pinned (OpenSpec.ofChange ddwireWritesSpec)

/-- ITS FALSE NEIGHBOUR: 'it returns false'. Refute it at one input. -/
def ddwireWritesWrong : ChangeSpec := { name := "ddwireWrites", fn := fun _ => fun
  | [d1, d2, d3, d4] => { results := [.lit (.bool false)], args := [d1, d2, d3, d4] }
  | _ => none }
def DdwireWritesWrongFalsely : Prop := ddwireWritesRow.holds Tryz.pinned (OpenSpec.ofChange ddwireWritesWrong)

/-- 'theodolitelaw21.DdwireReads': WHATEVER THE INPUT: true; the input reads as it did. -/
def ddwireReadsSpec : ChangeSpec := { name := "ddwireReads", fn := fun _ => fun
  | [d] => { results := [.lit (.bool true)], args := [d] }
  | _ => none }
def ddwireReadsRow : OpenClaim := { program := "ytaemgflhgdlmiaagreat", sum := "760105006ed7a7249636b3a800c2d9642372b4b00a0ed50e2a4a06e5995ea8f8", func := "theodolite/theodolitelaw21.DdwireReads", spec := "ddwireReads", inPlace := ["slices.overlaps[theodolite/api.Pair]"], unfollowed := true, recurses := true, named := ["math/bits.divideError", "math/bits.overflowError"], apart := false }
def DdwireReadsSaid : Prop := ddwireReadsRow.holds Tryz.pinned (OpenSpec.ofChange ddwireReadsSpec)

/-- ITS FALSE NEIGHBOUR: 'it returns false'. Refute it at one input. -/
def ddwireReadsWrong : ChangeSpec := { name := "ddwireReads", fn := fun _ => fun
  | [d] => { results := [.lit (.bool false)], args := [d] }
  | _ => none }
def DdwireReadsWrongFalsely : Prop := ddwireReadsRow.holds Tryz.pinned (OpenSpec.ofChange ddwireReadsWrong)

/-- 'theodolitelaw21.DdwireJoins': WHATEVER THE INPUT: true; the input reads as it did. -/
def ddwireJoinsSpec : ChangeSpec := { name := "ddwireJoins", fn := fun _ => fun
  | [d1, d2, d3, d4, d5, d6, d7] => { results := [.lit (.bool true)], args := [d1, d2, d3, d4, d5, d6, d7] }
  | _ => none }
def ddwireJoinsRow : OpenClaim := { program := "ytaemgflhgdlmiaagreat", sum := "760105006ed7a7249636b3a800c2d9642372b4b00a0ed50e2a4a06e5995ea8f8", func := "theodolite/theodolitelaw21.DdwireJoins", spec := "ddwireJoins", inPlace := ["slices.overlaps[theodolite/api.Pair]"], unfollowed := true, recurses := true, named := ["math/bits.divideError", "math/bits.overflowError"], apart := false }
def DdwireJoinsSaid : Prop := ddwireJoinsRow.holds Tryz.pinned (OpenSpec.ofChange ddwireJoinsSpec)

/-- ITS FALSE NEIGHBOUR: 'it returns false'. Refute it at one input. -/
def ddwireJoinsWrong : ChangeSpec := { name := "ddwireJoins", fn := fun _ => fun
  | [d1, d2, d3, d4, d5, d6, d7] => { results := [.lit (.bool false)], args := [d1, d2, d3, d4, d5, d6, d7] }
  | _ => none }
def DdwireJoinsWrongFalsely : Prop := ddwireJoinsRow.holds Tryz.pinned (OpenSpec.ofChange ddwireJoinsWrong)

/-- 'theodolitelaw21.DdwireSpoilt': WHATEVER THE INPUT: true; the input reads as it did. -/
def ddwireSpoiltSpec : ChangeSpec := { name := "ddwireSpoilt", fn := fun _ => fun
  | [d1, d2, d3, d4, d5, d6, d7] => { results := [.lit (.bool true)], args := [d1, d2, d3, d4, d5, d6, d7] }
  | _ => none }
def ddwireSpoiltRow : OpenClaim := { program := "ytaemgflhgdlmiaagreat", sum := "760105006ed7a7249636b3a800c2d9642372b4b00a0ed50e2a4a06e5995ea8f8", func := "theodolite/theodolitelaw21.DdwireSpoilt", spec := "ddwireSpoilt", inPlace := ["slices.overlaps[theodolite/api.Pair]"], unfollowed := true, recurses := true, named := ["math/bits.divideError", "math/bits.overflowError"], apart := false }
def DdwireSpoiltSaid : Prop := ddwireSpoiltRow.holds Tryz.pinned (OpenSpec.ofChange ddwireSpoiltSpec)

/-- ITS FALSE NEIGHBOUR: 'it returns false'. Refute it at one input. -/
def ddwireSpoiltWrong : ChangeSpec := { name := "ddwireSpoilt", fn := fun _ => fun
  | [d1, d2, d3, d4, d5, d6, d7] => { results := [.lit (.bool false)], args := [d1, d2, d3, d4, d5, d6, d7] }
  | _ => none }
def DdwireSpoiltWrongFalsely : Prop := ddwireSpoiltRow.holds Tryz.pinned (OpenSpec.ofChange ddwireSpoiltWrong)

/- THE SECOND FORM. 'bulk': how many values and letters a reading holds, each counted each time it is reached (what is shared counts as often as it is met; a slice's spare places count too). A statement '..UptoSaid' is the law's where the arguments, and the package variables that the reading takes, are together of bulk at most 1048576: NARROWER than '..Said'. Prove '..Said' where nothing that the law and all that it calls make is longer than what came in: it says more and counts as full. Else prove '..UptoSaid'. A law counts once. -/
mutual
def uptoBulk {H : Type} : DataW H → Nat
  | .lit (.string bytes) => bytes.length + 1
  | .lit _ => 1
  | .nil => 1
  | .ptr d => uptoBulk d + 1
  | .slice elems spare => uptoBulkAll elems + uptoBulkAll spare + 1
  | .agg parts => uptoBulkAll parts + 1
  | .iface _ d => uptoBulk d + 1
  | .map entries => uptoBulkEntries entries + 1
  | .held _ => 1
def uptoBulkAll {H : Type} : List (DataW H) → Nat
  | [] => 0
  | d :: r => uptoBulk d + uptoBulkAll r
def uptoBulkEntries {H : Type} : List (Lit × DataW H) → Nat
  | [] => 0
  | x :: r => uptoBulkEntry x + uptoBulkEntries r
def uptoBulkEntry {H : Type} : Lit × DataW H → Nat
  | (.string bytes, d) => bytes.length + uptoBulk d + 1
  | (_, d) => uptoBulk d + 1
 end
def uptoSmall : (H : Type) → List (DataW H) → Bool := fun _ ds => decide (uptoBulkAll ds ≤ 1048576)
def OpenSpec.upto (s : _root_.Go.ChangeSpec) : _root_.Go.OpenSpec := { _root_.Go.OpenSpec.ofChange s with cond := some uptoSmall }

/-- 'theodolitelaw21.DdwireWrites', WHERE WHAT IT READS IS OF BULK AT MOST 1048576: true; the input reads as it did. -/
def ddwireWritesUptoRow : OpenClaim := { program := "ytaemgflhgdlmiaagreat", sum := "760105006ed7a7249636b3a800c2d9642372b4b00a0ed50e2a4a06e5995ea8f8", func := "theodolite/theodolitelaw21.DdwireWrites", spec := "ddwireWrites", inPlace := ["slices.overlaps[theodolite/api.Pair]"], unfollowed := true, recurses := true, named := ["math/bits.divideError", "math/bits.overflowError"], apart := false, narrowed := true }
def DdwireWritesUptoSaid : Prop := ddwireWritesUptoRow.holds Tryz.pinned (OpenSpec.upto ddwireWritesSpec)

/-- 'theodolitelaw21.DdwireReads', WHERE WHAT IT READS IS OF BULK AT MOST 1048576: true; the input reads as it did. -/
def ddwireReadsUptoRow : OpenClaim := { program := "ytaemgflhgdlmiaagreat", sum := "760105006ed7a7249636b3a800c2d9642372b4b00a0ed50e2a4a06e5995ea8f8", func := "theodolite/theodolitelaw21.DdwireReads", spec := "ddwireReads", inPlace := ["slices.overlaps[theodolite/api.Pair]"], unfollowed := true, recurses := true, named := ["math/bits.divideError", "math/bits.overflowError"], apart := false, narrowed := true }
def DdwireReadsUptoSaid : Prop := ddwireReadsUptoRow.holds Tryz.pinned (OpenSpec.upto ddwireReadsSpec)

/-- 'theodolitelaw21.DdwireJoins', WHERE WHAT IT READS IS OF BULK AT MOST 1048576: true; the input reads as it did. -/
def ddwireJoinsUptoRow : OpenClaim := { program := "ytaemgflhgdlmiaagreat", sum := "760105006ed7a7249636b3a800c2d9642372b4b00a0ed50e2a4a06e5995ea8f8", func := "theodolite/theodolitelaw21.DdwireJoins", spec := "ddwireJoins", inPlace := ["slices.overlaps[theodolite/api.Pair]"], unfollowed := true, recurses := true, named := ["math/bits.divideError", "math/bits.overflowError"], apart := false, narrowed := true }
def DdwireJoinsUptoSaid : Prop := ddwireJoinsUptoRow.holds Tryz.pinned (OpenSpec.upto ddwireJoinsSpec)

/-- 'theodolitelaw21.DdwireSpoilt', WHERE WHAT IT READS IS OF BULK AT MOST 1048576: true; the input reads as it did. -/
def ddwireSpoiltUptoRow : OpenClaim := { program := "ytaemgflhgdlmiaagreat", sum := "760105006ed7a7249636b3a800c2d9642372b4b00a0ed50e2a4a06e5995ea8f8", func := "theodolite/theodolitelaw21.DdwireSpoilt", spec := "ddwireSpoilt", inPlace := ["slices.overlaps[theodolite/api.Pair]"], unfollowed := true, recurses := true, named := ["math/bits.divideError", "math/bits.overflowError"], apart := false, narrowed := true }
def DdwireSpoiltUptoSaid : Prop := ddwireSpoiltUptoRow.holds Tryz.pinned (OpenSpec.upto ddwireSpoiltSpec)

end Rows
end Go.Proofs.YtaemgflhgdlmiaaGreat
