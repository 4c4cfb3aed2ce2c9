/-
  No cell of these rows narrows 'for every input' (looked for: loops, veiled, ifaces, maps, wideKeys, modest, calm, conditions, laid).
  DERIVED. THE GIVEN ROWS OF THIS SEAT. 5 by the template 'for every input the law returns true; each argument reads behind the call as it read before'; 0 by the template 'total and deterministic' (their statements: YtljodghfgnkknaaTotals.lean).
  GIVEN WITH THE SEED: the statements are not yours to turn. If you find one false, say at which input.
  Laid BY PROGRAM, IN A SANDBOX (cutbox-rows.mjs): the forced cells as the released guide's own fill.sh prints them over the translation afce70d15d081c59… (all of the seat's roots in one cut). By AI agents, Wed Nov 11 2026. No macro, syntax, notation, axiom, sorry.
-/
import Derived.Test.YtljodghfgnkknaaChecked
import GoSem.Claim
import GoSem.ClaimJoined
import GoSem.ClaimMapViews
import Derived.JoinedTies
import Derived.KernelRfl
namespace Go.Proofs.Ytljodghfgnkknaa
/- THE CELL 'sum', in the pinned program and in every row, IS THE sha256 OF THE DUMP (.gsa) THAT YtljodghfgnkknaaProg.lean LOADS. Nothing in Lean hashes anything: it is a label: what it is worth is what the hold of that sum in a sandbox is worth. -/
noncomputable def Try.pinned : Pinned := { name := "ytljodghfgnkknaa", sum := "afce70d15d081c599d1a2c3083399c7e992ea733a98a4319c362d377c5007ae6", checked := Try.checked }
namespace Rows
def none {H : Type} : Left H := { results := [], args := [] }

/-- 'theodolitelaw14.SparsePlays': WHATEVER THE INPUT: true; the input reads as it did. -/
def sparsePlaysSpec : ChangeSpec := { name := "sparsePlays", fn := fun _ => fun
  | [d] => { results := [.lit (.bool true)], args := [d] }
  | _ => none }
def sparsePlaysRow : OpenClaim := { program := "ytljodghfgnkknaa", sum := "afce70d15d081c599d1a2c3083399c7e992ea733a98a4319c362d377c5007ae6", func := "theodolite/theodolitelaw14.SparsePlays", spec := "sparsePlays", inPlace := ["slices.overlaps[theodolite/api.Pair]"], unfollowed := true, recurses := true, apart := false }
def SparsePlaysSaid : Prop := sparsePlaysRow.holds Try.pinned (OpenSpec.ofChange sparsePlaysSpec)

/-- ITS FALSE NEIGHBOUR: 'it returns false'. Refute it at one input. -/
def sparsePlaysWrong : ChangeSpec := { name := "sparsePlays", fn := fun _ => fun
  | [d] => { results := [.lit (.bool false)], args := [d] }
  | _ => none }
def SparsePlaysWrongFalsely : Prop := sparsePlaysRow.holds Try.pinned (OpenSpec.ofChange sparsePlaysWrong)

/-- 'theodolitelaw14.SparseRanks': WHATEVER THE INPUT: true; the input reads as it did. -/
def sparseRanksSpec : ChangeSpec := { name := "sparseRanks", fn := fun _ => fun
  | [d1, d2] => { results := [.lit (.bool true)], args := [d1, d2] }
  | _ => none }
def sparseRanksRow : OpenClaim := { program := "ytljodghfgnkknaa", sum := "afce70d15d081c599d1a2c3083399c7e992ea733a98a4319c362d377c5007ae6", func := "theodolite/theodolitelaw14.SparseRanks", spec := "sparseRanks", inPlace := ["slices.overlaps[theodolite/api.Pair]"], unfollowed := true, recurses := true, apart := false }
def SparseRanksSaid : Prop := sparseRanksRow.holds Try.pinned (OpenSpec.ofChange sparseRanksSpec)

/-- ITS FALSE NEIGHBOUR: 'it returns false'. Refute it at one input. -/
def sparseRanksWrong : ChangeSpec := { name := "sparseRanks", fn := fun _ => fun
  | [d1, d2] => { results := [.lit (.bool false)], args := [d1, d2] }
  | _ => none }
def SparseRanksWrongFalsely : Prop := sparseRanksRow.holds Try.pinned (OpenSpec.ofChange sparseRanksWrong)

/-- 'theodolitelaw14.SparseCuts': WHATEVER THE INPUT: true; the input reads as it did. -/
def sparseCutsSpec : ChangeSpec := { name := "sparseCuts", fn := fun _ => fun
  | [d1, d2, d3, d4] => { results := [.lit (.bool true)], args := [d1, d2, d3, d4] }
  | _ => none }
def sparseCutsRow : OpenClaim := { program := "ytljodghfgnkknaa", sum := "afce70d15d081c599d1a2c3083399c7e992ea733a98a4319c362d377c5007ae6", func := "theodolite/theodolitelaw14.SparseCuts", spec := "sparseCuts", inPlace := ["slices.overlaps[theodolite/api.Pair]"], unfollowed := true, recurses := true, apart := false }
def SparseCutsSaid : Prop := sparseCutsRow.holds Try.pinned (OpenSpec.ofChange sparseCutsSpec)

/-- ITS FALSE NEIGHBOUR: 'it returns false'. Refute it at one input. -/
def sparseCutsWrong : ChangeSpec := { name := "sparseCuts", fn := fun _ => fun
  | [d1, d2, d3, d4] => { results := [.lit (.bool false)], args := [d1, d2, d3, d4] }
  | _ => none }
def SparseCutsWrongFalsely : Prop := sparseCutsRow.holds Try.pinned (OpenSpec.ofChange sparseCutsWrong)

/-- 'theodolitelaw14.SparseOf': WHATEVER THE INPUT: true; the input reads as it did. -/
def sparseOfSpec : ChangeSpec := { name := "sparseOf", fn := fun _ => fun
  | [d] => { results := [.lit (.bool true)], args := [d] }
  | _ => none }
def sparseOfRow : OpenClaim := { program := "ytljodghfgnkknaa", sum := "afce70d15d081c599d1a2c3083399c7e992ea733a98a4319c362d377c5007ae6", func := "theodolite/theodolitelaw14.SparseOf", spec := "sparseOf", unfollowed := true, recurses := true, apart := false }
def SparseOfSaid : Prop := sparseOfRow.holds Try.pinned (OpenSpec.ofChange sparseOfSpec)

/-- ITS FALSE NEIGHBOUR: 'it returns false'. Refute it at one input. -/
def sparseOfWrong : ChangeSpec := { name := "sparseOf", fn := fun _ => fun
  | [d] => { results := [.lit (.bool false)], args := [d] }
  | _ => none }
def SparseOfWrongFalsely : Prop := sparseOfRow.holds Try.pinned (OpenSpec.ofChange sparseOfWrong)

/-- 'theodolitelaw14.SparseOwn': WHATEVER THE INPUT: true; the input reads as it did. -/
def sparseOwnSpec : ChangeSpec := { name := "sparseOwn", fn := fun _ => fun
  | [d1, d2] => { results := [.lit (.bool true)], args := [d1, d2] }
  | _ => none }
def sparseOwnRow : OpenClaim := { program := "ytljodghfgnkknaa", sum := "afce70d15d081c599d1a2c3083399c7e992ea733a98a4319c362d377c5007ae6", func := "theodolite/theodolitelaw14.SparseOwn", spec := "sparseOwn", inPlace := ["slices.overlaps[theodolite/api.Pair]"], unfollowed := true, recurses := true, apart := false }
def SparseOwnSaid : Prop := sparseOwnRow.holds Try.pinned (OpenSpec.ofChange sparseOwnSpec)

/-- ITS FALSE NEIGHBOUR: 'it returns false'. Refute it at one input. -/
def sparseOwnWrong : ChangeSpec := { name := "sparseOwn", fn := fun _ => fun
  | [d1, d2] => { results := [.lit (.bool false)], args := [d1, d2] }
  | _ => none }
def SparseOwnWrongFalsely : Prop := sparseOwnRow.holds Try.pinned (OpenSpec.ofChange sparseOwnWrong)

/- THE SECOND FORM. 'bulk': how many values and letters a reading holds, each counted each time it is reached (what is shared counts as often as it is met; a slice's spare places count too). A statement '..UptoSaid' is the law's where the arguments, and the package variables that the reading takes, are together of bulk at most 1048576: NARROWER than '..Said'. Prove '..Said' where nothing that the law and all that it calls make is longer than what came in: it says more and counts as full. Else prove '..UptoSaid'. A law counts once. -/
mutual
def uptoBulk {H : Type} : DataW H → Nat
  | .lit (.string bytes) => bytes.length + 1
  | .lit _ => 1
  | .nil => 1
  | .ptr d => uptoBulk d + 1
  | .slice elems spare => uptoBulkAll elems + uptoBulkAll spare + 1
  | .agg parts => uptoBulkAll parts + 1
  | .iface _ d => uptoBulk d + 1
  | .map entries => uptoBulkEntries entries + 1
  | .held _ => 1
def uptoBulkAll {H : Type} : List (DataW H) → Nat
  | [] => 0
  | d :: r => uptoBulk d + uptoBulkAll r
def uptoBulkEntries {H : Type} : List (Lit × DataW H) → Nat
  | [] => 0
  | x :: r => uptoBulkEntry x + uptoBulkEntries r
def uptoBulkEntry {H : Type} : Lit × DataW H → Nat
  | (.string bytes, d) => bytes.length + uptoBulk d + 1
  | (_, d) => uptoBulk d + 1
 end
def uptoSmall : (H : Type) → List (DataW H) → Bool := fun _ ds => decide (uptoBulkAll ds ≤ 1048576)
def OpenSpec.upto (s : _root_.Go.ChangeSpec) : _root_.Go.OpenSpec := { _root_.Go.OpenSpec.ofChange s with cond := some uptoSmall }

/-- 'theodolitelaw14.SparsePlays', WHERE WHAT IT READS IS OF BULK AT MOST 1048576: true; the input reads as it did. -/
def sparsePlaysUptoRow : OpenClaim := { program := "ytljodghfgnkknaa", sum := "afce70d15d081c599d1a2c3083399c7e992ea733a98a4319c362d377c5007ae6", func := "theodolite/theodolitelaw14.SparsePlays", spec := "sparsePlays", inPlace := ["slices.overlaps[theodolite/api.Pair]"], unfollowed := true, recurses := true, apart := false, narrowed := true }
def SparsePlaysUptoSaid : Prop := sparsePlaysUptoRow.holds Try.pinned (OpenSpec.upto sparsePlaysSpec)

/-- 'theodolitelaw14.SparseRanks', WHERE WHAT IT READS IS OF BULK AT MOST 1048576: true; the input reads as it did. -/
def sparseRanksUptoRow : OpenClaim := { program := "ytljodghfgnkknaa", sum := "afce70d15d081c599d1a2c3083399c7e992ea733a98a4319c362d377c5007ae6", func := "theodolite/theodolitelaw14.SparseRanks", spec := "sparseRanks", inPlace := ["slices.overlaps[theodolite/api.Pair]"], unfollowed := true, recurses := true, apart := false, narrowed := true }
def SparseRanksUptoSaid : Prop := sparseRanksUptoRow.holds Try.pinned (OpenSpec.upto sparseRanksSpec)

/-- 'theodolitelaw14.SparseCuts', WHERE WHAT IT READS IS OF BULK AT MOST 1048576: true; the input reads as it did. -/
def sparseCutsUptoRow : OpenClaim := { program := "ytljodghfgnkknaa", sum := "afce70d15d081c599d1a2c3083399c7e992ea733a98a4319c362d377c5007ae6", func := "theodolite/theodolitelaw14.SparseCuts", spec := "sparseCuts", inPlace := ["slices.overlaps[theodolite/api.Pair]"], unfollowed := true, recurses := true, apart := false, narrowed := true }
def SparseCutsUptoSaid : Prop := sparseCutsUptoRow.holds Try.pinned (OpenSpec.upto sparseCutsSpec)

/-- 'theodolitelaw14.SparseOf', WHERE WHAT IT READS IS OF BULK AT MOST 1048576: true; the input reads as it did. -/
def sparseOfUptoRow : OpenClaim := { program := "ytljodghfgnkknaa", sum := "afce70d15d081c599d1a2c3083399c7e992ea733a98a4319c362d377c5007ae6", func := "theodolite/theodolitelaw14.SparseOf", spec := "sparseOf", unfollowed := true, recurses := true, apart := false, narrowed := true }
def SparseOfUptoSaid : Prop := sparseOfUptoRow.holds Try.pinned (OpenSpec.upto sparseOfSpec)

/-- 'theodolitelaw14.SparseOwn', WHERE WHAT IT READS IS OF BULK AT MOST 1048576: true; the input reads as it did. -/
def sparseOwnUptoRow : OpenClaim := { program := "ytljodghfgnkknaa", sum := "afce70d15d081c599d1a2c3083399c7e992ea733a98a4319c362d377c5007ae6", func := "theodolite/theodolitelaw14.SparseOwn", spec := "sparseOwn", inPlace := ["slices.overlaps[theodolite/api.Pair]"], unfollowed := true, recurses := true, apart := false, narrowed := true }
def SparseOwnUptoSaid : Prop := sparseOwnUptoRow.holds Try.pinned (OpenSpec.upto sparseOwnSpec)

end Rows
end Go.Proofs.Ytljodghfgnkknaa
