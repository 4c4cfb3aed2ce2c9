/-
  No cell of these rows narrows 'for every input' (looked for: loops, veiled, ifaces, maps, wideKeys, modest, calm, conditions, laid).
  DERIVED. THE GIVEN ROWS OF THIS SEAT. 4 by the template 'for every input the law returns true; each argument reads behind the call as it read before'; 0 by the template 'total and deterministic' (their statements: YtocdjklgfmkbfaaTotals.lean).
  GIVEN WITH THE SEED: the statements are not yours to turn. If you find one false, say at which input.
  Laid BY PROGRAM, IN A SANDBOX (cutbox-rows.mjs): the forced cells as the released guide's own fill.sh prints them over the translation abf1b18ce5f41326… (all of the seat's roots in one cut). By AI agents, Wed Nov 11 2026. No macro, syntax, notation, axiom, sorry.
-/
import Derived.Test.YtocdjklgfmkbfaaChecked
import GoSem.Claim
import GoSem.ClaimJoined
import GoSem.ClaimMapViews
import Derived.JoinedTies
import Derived.KernelRfl
namespace Go.Proofs.Ytocdjklgfmkbfaa
/- THE CELL 'sum', in the pinned program and in every row, IS THE sha256 OF THE DUMP (.gsa) THAT YtocdjklgfmkbfaaProg.lean LOADS. Nothing in Lean hashes anything: it is a label: what it is worth is what the hold of that sum in a sandbox is worth. -/
noncomputable def Try.pinned : Pinned := { name := "ytocdjklgfmkbfaa", sum := "abf1b18ce5f4132681f3969cab884080361b28095c6d9370750194d301f2c5af", checked := Try.checked }
namespace Rows
def none {H : Type} : Left H := { results := [], args := [] }

/-- 'theodolitelaw13.DensePlays': WHATEVER THE INPUT: true; the input reads as it did. -/
def densePlaysSpec : ChangeSpec := { name := "densePlays", fn := fun _ => fun
  | [d] => { results := [.lit (.bool true)], args := [d] }
  | _ => none }
def densePlaysRow : OpenClaim := { program := "ytocdjklgfmkbfaa", sum := "abf1b18ce5f4132681f3969cab884080361b28095c6d9370750194d301f2c5af", func := "theodolite/theodolitelaw13.DensePlays", spec := "densePlays", unfollowed := true, recurses := true, apart := false }
def DensePlaysSaid : Prop := densePlaysRow.holds Try.pinned (OpenSpec.ofChange densePlaysSpec)

/-- ITS FALSE NEIGHBOUR: 'it returns false'. Refute it at one input. -/
def densePlaysWrong : ChangeSpec := { name := "densePlays", fn := fun _ => fun
  | [d] => { results := [.lit (.bool false)], args := [d] }
  | _ => none }
def DensePlaysWrongFalsely : Prop := densePlaysRow.holds Try.pinned (OpenSpec.ofChange densePlaysWrong)

/-- 'theodolitelaw13.DenseOrder': WHATEVER THE INPUT: true; the input reads as it did. -/
def denseOrderSpec : ChangeSpec := { name := "denseOrder", fn := fun _ => fun
  | [d] => { results := [.lit (.bool true)], args := [d] }
  | _ => none }
def denseOrderRow : OpenClaim := { program := "ytocdjklgfmkbfaa", sum := "abf1b18ce5f4132681f3969cab884080361b28095c6d9370750194d301f2c5af", func := "theodolite/theodolitelaw13.DenseOrder", spec := "denseOrder", unfollowed := true, recurses := true, apart := false }
def DenseOrderSaid : Prop := denseOrderRow.holds Try.pinned (OpenSpec.ofChange denseOrderSpec)

/-- ITS FALSE NEIGHBOUR: 'it returns false'. Refute it at one input. -/
def denseOrderWrong : ChangeSpec := { name := "denseOrder", fn := fun _ => fun
  | [d] => { results := [.lit (.bool false)], args := [d] }
  | _ => none }
def DenseOrderWrongFalsely : Prop := denseOrderRow.holds Try.pinned (OpenSpec.ofChange denseOrderWrong)

/-- 'theodolitelaw13.DenseTakes': WHATEVER THE INPUT: true; the input reads as it did. -/
def denseTakesSpec : ChangeSpec := { name := "denseTakes", fn := fun _ => fun
  | [d1, d2] => { results := [.lit (.bool true)], args := [d1, d2] }
  | _ => none }
def denseTakesRow : OpenClaim := { program := "ytocdjklgfmkbfaa", sum := "abf1b18ce5f4132681f3969cab884080361b28095c6d9370750194d301f2c5af", func := "theodolite/theodolitelaw13.DenseTakes", spec := "denseTakes", unfollowed := true, recurses := true, apart := false }
def DenseTakesSaid : Prop := denseTakesRow.holds Try.pinned (OpenSpec.ofChange denseTakesSpec)

/-- ITS FALSE NEIGHBOUR: 'it returns false'. Refute it at one input. -/
def denseTakesWrong : ChangeSpec := { name := "denseTakes", fn := fun _ => fun
  | [d1, d2] => { results := [.lit (.bool false)], args := [d1, d2] }
  | _ => none }
def DenseTakesWrongFalsely : Prop := denseTakesRow.holds Try.pinned (OpenSpec.ofChange denseTakesWrong)

/-- 'theodolitelaw13.DenseOwn': WHATEVER THE INPUT: true; the input reads as it did. -/
def denseOwnSpec : ChangeSpec := { name := "denseOwn", fn := fun _ => fun
  | [d] => { results := [.lit (.bool true)], args := [d] }
  | _ => none }
def denseOwnRow : OpenClaim := { program := "ytocdjklgfmkbfaa", sum := "abf1b18ce5f4132681f3969cab884080361b28095c6d9370750194d301f2c5af", func := "theodolite/theodolitelaw13.DenseOwn", spec := "denseOwn", unfollowed := true, recurses := true, apart := false }
def DenseOwnSaid : Prop := denseOwnRow.holds Try.pinned (OpenSpec.ofChange denseOwnSpec)

/-- ITS FALSE NEIGHBOUR: 'it returns false'. Refute it at one input. -/
def denseOwnWrong : ChangeSpec := { name := "denseOwn", fn := fun _ => fun
  | [d] => { results := [.lit (.bool false)], args := [d] }
  | _ => none }
def DenseOwnWrongFalsely : Prop := denseOwnRow.holds Try.pinned (OpenSpec.ofChange denseOwnWrong)

/- THE SECOND FORM. 'bulk': how many values and letters a reading holds, each counted each time it is reached (what is shared counts as often as it is met; a slice's spare places count too). A statement '..UptoSaid' is the law's where the arguments, and the package variables that the reading takes, are together of bulk at most 1048576: NARROWER than '..Said'. Prove '..Said' where nothing that the law and all that it calls make is longer than what came in: it says more and counts as full. Else prove '..UptoSaid'. A law counts once. -/
mutual
def uptoBulk {H : Type} : DataW H → Nat
  | .lit (.string bytes) => bytes.length + 1
  | .lit _ => 1
  | .nil => 1
  | .ptr d => uptoBulk d + 1
  | .slice elems spare => uptoBulkAll elems + uptoBulkAll spare + 1
  | .agg parts => uptoBulkAll parts + 1
  | .iface _ d => uptoBulk d + 1
  | .map entries => uptoBulkEntries entries + 1
  | .held _ => 1
def uptoBulkAll {H : Type} : List (DataW H) → Nat
  | [] => 0
  | d :: r => uptoBulk d + uptoBulkAll r
def uptoBulkEntries {H : Type} : List (Lit × DataW H) → Nat
  | [] => 0
  | x :: r => uptoBulkEntry x + uptoBulkEntries r
def uptoBulkEntry {H : Type} : Lit × DataW H → Nat
  | (.string bytes, d) => bytes.length + uptoBulk d + 1
  | (_, d) => uptoBulk d + 1
 end
def uptoSmall : (H : Type) → List (DataW H) → Bool := fun _ ds => decide (uptoBulkAll ds ≤ 1048576)
def OpenSpec.upto (s : _root_.Go.ChangeSpec) : _root_.Go.OpenSpec := { _root_.Go.OpenSpec.ofChange s with cond := some uptoSmall }

/-- 'theodolitelaw13.DensePlays', WHERE WHAT IT READS IS OF BULK AT MOST 1048576: true; the input reads as it did. -/
def densePlaysUptoRow : OpenClaim := { program := "ytocdjklgfmkbfaa", sum := "abf1b18ce5f4132681f3969cab884080361b28095c6d9370750194d301f2c5af", func := "theodolite/theodolitelaw13.DensePlays", spec := "densePlays", unfollowed := true, recurses := true, apart := false, narrowed := true }
def DensePlaysUptoSaid : Prop := densePlaysUptoRow.holds Try.pinned (OpenSpec.upto densePlaysSpec)

/-- 'theodolitelaw13.DenseOrder', WHERE WHAT IT READS IS OF BULK AT MOST 1048576: true; the input reads as it did. -/
def denseOrderUptoRow : OpenClaim := { program := "ytocdjklgfmkbfaa", sum := "abf1b18ce5f4132681f3969cab884080361b28095c6d9370750194d301f2c5af", func := "theodolite/theodolitelaw13.DenseOrder", spec := "denseOrder", unfollowed := true, recurses := true, apart := false, narrowed := true }
def DenseOrderUptoSaid : Prop := denseOrderUptoRow.holds Try.pinned (OpenSpec.upto denseOrderSpec)

/-- 'theodolitelaw13.DenseTakes', WHERE WHAT IT READS IS OF BULK AT MOST 1048576: true; the input reads as it did. -/
def denseTakesUptoRow : OpenClaim := { program := "ytocdjklgfmkbfaa", sum := "abf1b18ce5f4132681f3969cab884080361b28095c6d9370750194d301f2c5af", func := "theodolite/theodolitelaw13.DenseTakes", spec := "denseTakes", unfollowed := true, recurses := true, apart := false, narrowed := true }
def DenseTakesUptoSaid : Prop := denseTakesUptoRow.holds Try.pinned (OpenSpec.upto denseTakesSpec)

/-- 'theodolitelaw13.DenseOwn', WHERE WHAT IT READS IS OF BULK AT MOST 1048576: true; the input reads as it did. -/
def denseOwnUptoRow : OpenClaim := { program := "ytocdjklgfmkbfaa", sum := "abf1b18ce5f4132681f3969cab884080361b28095c6d9370750194d301f2c5af", func := "theodolite/theodolitelaw13.DenseOwn", spec := "denseOwn", unfollowed := true, recurses := true, apart := false, narrowed := true }
def DenseOwnUptoSaid : Prop := denseOwnUptoRow.holds Try.pinned (OpenSpec.upto denseOwnSpec)

end Rows
end Go.Proofs.Ytocdjklgfmkbfaa
