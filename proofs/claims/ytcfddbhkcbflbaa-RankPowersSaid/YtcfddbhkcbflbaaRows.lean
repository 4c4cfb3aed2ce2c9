/-
  No cell of these rows narrows 'for every input' (looked for: loops, veiled, ifaces, maps, wideKeys, modest, calm, conditions, laid).
  DERIVED. THE GIVEN ROWS OF THIS SEAT. 6 by the template 'for every input the law returns true; each argument reads behind the call as it read before'; 0 by the template 'total and deterministic' (their statements: YtcfddbhkcbflbaaTotals.lean).
  GIVEN WITH THE SEED: the statements are not yours to turn. If you find one false, say at which input.
  Laid BY PROGRAM, IN A SANDBOX (cutbox-rows.mjs): the forced cells as the released guide's own fill.sh prints them over the translation a758a132e65acd72… (all of the seat's roots in one cut). By AI agents, Wed Nov 11 2026. No macro, syntax, notation, axiom, sorry.
-/
import Derived.Test.YtcfddbhkcbflbaaChecked
import GoSem.Claim
import GoSem.ClaimJoined
import GoSem.ClaimMapViews
import Derived.JoinedTies
import Derived.KernelRfl
namespace Go.Proofs.Ytcfddbhkcbflbaa
/- THE CELL 'sum', in the pinned program and in every row, IS THE sha256 OF THE DUMP (.gsa) THAT YtcfddbhkcbflbaaProg.lean LOADS. Nothing in Lean hashes anything: it is a label: what it is worth is what the hold of that sum in a sandbox is worth. -/
noncomputable def Try.pinned : Pinned := { name := "ytcfddbhkcbflbaa", sum := "a758a132e65acd7222f153f38a8c1232020be89c7a6d60a67cd1e84ab5469c22", checked := Try.checked }
namespace Rows
def none {H : Type} : Left H := { results := [], args := [] }

/-- 'theodolitelaw11.RankRanks': WHATEVER THE INPUT: true; the input reads as it did. -/
def rankRanksSpec : ChangeSpec := { name := "rankRanks", fn := fun _ => fun
  | [d1, d2, d3] => { results := [.lit (.bool true)], args := [d1, d2, d3] }
  | _ => none }
def rankRanksRow : OpenClaim := { program := "ytcfddbhkcbflbaa", sum := "a758a132e65acd7222f153f38a8c1232020be89c7a6d60a67cd1e84ab5469c22", func := "theodolite/theodolitelaw11.RankRanks", spec := "rankRanks", unfollowed := true, recurses := true, named := ["math/bits.divideError", "math/bits.overflowError"], apart := false }
def RankRanksSaid : Prop := rankRanksRow.holds Try.pinned (OpenSpec.ofChange rankRanksSpec)

/-- ITS FALSE NEIGHBOUR: 'it returns false'. Refute it at one input. -/
def rankRanksWrong : ChangeSpec := { name := "rankRanks", fn := fun _ => fun
  | [d1, d2, d3] => { results := [.lit (.bool false)], args := [d1, d2, d3] }
  | _ => none }
def RankRanksWrongFalsely : Prop := rankRanksRow.holds Try.pinned (OpenSpec.ofChange rankRanksWrong)

/-- 'theodolitelaw11.RankBounds': WHATEVER THE INPUT: true; the input reads as it did. -/
def rankBoundsSpec : ChangeSpec := { name := "rankBounds", fn := fun _ => fun
  | [d1, d2, d3, d4, d5] => { results := [.lit (.bool true)], args := [d1, d2, d3, d4, d5] }
  | _ => none }
def rankBoundsRow : OpenClaim := { program := "ytcfddbhkcbflbaa", sum := "a758a132e65acd7222f153f38a8c1232020be89c7a6d60a67cd1e84ab5469c22", func := "theodolite/theodolitelaw11.RankBounds", spec := "rankBounds", unfollowed := true, recurses := true, named := ["math/bits.divideError", "math/bits.overflowError"], apart := false }
def RankBoundsSaid : Prop := rankBoundsRow.holds Try.pinned (OpenSpec.ofChange rankBoundsSpec)

/-- ITS FALSE NEIGHBOUR: 'it returns false'. Refute it at one input. -/
def rankBoundsWrong : ChangeSpec := { name := "rankBounds", fn := fun _ => fun
  | [d1, d2, d3, d4, d5] => { results := [.lit (.bool false)], args := [d1, d2, d3, d4, d5] }
  | _ => none }
def RankBoundsWrongFalsely : Prop := rankBoundsRow.holds Try.pinned (OpenSpec.ofChange rankBoundsWrong)

/-- 'theodolitelaw11.RankLeast': WHATEVER THE INPUT: true; the input reads as it did. -/
def rankLeastSpec : ChangeSpec := { name := "rankLeast", fn := fun _ => fun
  | [d1, d2, d3] => { results := [.lit (.bool true)], args := [d1, d2, d3] }
  | _ => none }
def rankLeastRow : OpenClaim := { program := "ytcfddbhkcbflbaa", sum := "a758a132e65acd7222f153f38a8c1232020be89c7a6d60a67cd1e84ab5469c22", func := "theodolite/theodolitelaw11.RankLeast", spec := "rankLeast", unfollowed := true, recurses := true, named := ["math/bits.divideError", "math/bits.overflowError"], apart := false }
def RankLeastSaid : Prop := rankLeastRow.holds Try.pinned (OpenSpec.ofChange rankLeastSpec)

/-- ITS FALSE NEIGHBOUR: 'it returns false'. Refute it at one input. -/
def rankLeastWrong : ChangeSpec := { name := "rankLeast", fn := fun _ => fun
  | [d1, d2, d3] => { results := [.lit (.bool false)], args := [d1, d2, d3] }
  | _ => none }
def RankLeastWrongFalsely : Prop := rankLeastRow.holds Try.pinned (OpenSpec.ofChange rankLeastWrong)

/-- 'theodolitelaw11.RankCmp': WHATEVER THE INPUT: true; the input reads as it did. -/
def rankCmpSpec : ChangeSpec := { name := "rankCmp", fn := fun _ => fun
  | [d1, d2, d3, d4] => { results := [.lit (.bool true)], args := [d1, d2, d3, d4] }
  | _ => none }
def rankCmpRow : OpenClaim := { program := "ytcfddbhkcbflbaa", sum := "a758a132e65acd7222f153f38a8c1232020be89c7a6d60a67cd1e84ab5469c22", func := "theodolite/theodolitelaw11.RankCmp", spec := "rankCmp", unfollowed := true, recurses := true, named := ["math/bits.divideError", "math/bits.overflowError"], apart := false }
def RankCmpSaid : Prop := rankCmpRow.holds Try.pinned (OpenSpec.ofChange rankCmpSpec)

/-- ITS FALSE NEIGHBOUR: 'it returns false'. Refute it at one input. -/
def rankCmpWrong : ChangeSpec := { name := "rankCmp", fn := fun _ => fun
  | [d1, d2, d3, d4] => { results := [.lit (.bool false)], args := [d1, d2, d3, d4] }
  | _ => none }
def RankCmpWrongFalsely : Prop := rankCmpRow.holds Try.pinned (OpenSpec.ofChange rankCmpWrong)

/-- 'theodolitelaw11.RankPowers': WHATEVER THE INPUT: true; the input reads as it did. -/
def rankPowersSpec : ChangeSpec := { name := "rankPowers", fn := fun _ => fun
  | [d1, d2] => { results := [.lit (.bool true)], args := [d1, d2] }
  | _ => none }
def rankPowersRow : OpenClaim := { program := "ytcfddbhkcbflbaa", sum := "a758a132e65acd7222f153f38a8c1232020be89c7a6d60a67cd1e84ab5469c22", func := "theodolite/theodolitelaw11.RankPowers", spec := "rankPowers", unfollowed := true, recurses := true, named := ["math/bits.divideError", "math/bits.overflowError"], apart := false }
def RankPowersSaid : Prop := rankPowersRow.holds Try.pinned (OpenSpec.ofChange rankPowersSpec)

/-- ITS FALSE NEIGHBOUR: 'it returns false'. Refute it at one input. -/
def rankPowersWrong : ChangeSpec := { name := "rankPowers", fn := fun _ => fun
  | [d1, d2] => { results := [.lit (.bool false)], args := [d1, d2] }
  | _ => none }
def RankPowersWrongFalsely : Prop := rankPowersRow.holds Try.pinned (OpenSpec.ofChange rankPowersWrong)

/-- 'theodolitelaw11.RankCuts': WHATEVER THE INPUT: true; the input reads as it did. -/
def rankCutsSpec : ChangeSpec := { name := "rankCuts", fn := fun _ => fun
  | [d1, d2] => { results := [.lit (.bool true)], args := [d1, d2] }
  | _ => none }
def rankCutsRow : OpenClaim := { program := "ytcfddbhkcbflbaa", sum := "a758a132e65acd7222f153f38a8c1232020be89c7a6d60a67cd1e84ab5469c22", func := "theodolite/theodolitelaw11.RankCuts", spec := "rankCuts", unfollowed := true, recurses := true, named := ["math/bits.divideError", "math/bits.overflowError"], apart := false }
def RankCutsSaid : Prop := rankCutsRow.holds Try.pinned (OpenSpec.ofChange rankCutsSpec)

/-- ITS FALSE NEIGHBOUR: 'it returns false'. Refute it at one input. -/
def rankCutsWrong : ChangeSpec := { name := "rankCuts", fn := fun _ => fun
  | [d1, d2] => { results := [.lit (.bool false)], args := [d1, d2] }
  | _ => none }
def RankCutsWrongFalsely : Prop := rankCutsRow.holds Try.pinned (OpenSpec.ofChange rankCutsWrong)

/- THE SECOND FORM. 'bulk': how many values and letters a reading holds, each counted each time it is reached (what is shared counts as often as it is met; a slice's spare places count too). A statement '..UptoSaid' is the law's where the arguments, and the package variables that the reading takes, are together of bulk at most 1048576: NARROWER than '..Said'. Prove '..Said' where nothing that the law and all that it calls make is longer than what came in: it says more and counts as full. Else prove '..UptoSaid'. A law counts once. -/
mutual
def uptoBulk {H : Type} : DataW H → Nat
  | .lit (.string bytes) => bytes.length + 1
  | .lit _ => 1
  | .nil => 1
  | .ptr d => uptoBulk d + 1
  | .slice elems spare => uptoBulkAll elems + uptoBulkAll spare + 1
  | .agg parts => uptoBulkAll parts + 1
  | .iface _ d => uptoBulk d + 1
  | .map entries => uptoBulkEntries entries + 1
  | .held _ => 1
def uptoBulkAll {H : Type} : List (DataW H) → Nat
  | [] => 0
  | d :: r => uptoBulk d + uptoBulkAll r
def uptoBulkEntries {H : Type} : List (Lit × DataW H) → Nat
  | [] => 0
  | x :: r => uptoBulkEntry x + uptoBulkEntries r
def uptoBulkEntry {H : Type} : Lit × DataW H → Nat
  | (.string bytes, d) => bytes.length + uptoBulk d + 1
  | (_, d) => uptoBulk d + 1
 end
def uptoSmall : (H : Type) → List (DataW H) → Bool := fun _ ds => decide (uptoBulkAll ds ≤ 1048576)
def OpenSpec.upto (s : _root_.Go.ChangeSpec) : _root_.Go.OpenSpec := { _root_.Go.OpenSpec.ofChange s with cond := some uptoSmall }

/-- 'theodolitelaw11.RankRanks', WHERE WHAT IT READS IS OF BULK AT MOST 1048576: true; the input reads as it did. -/
def rankRanksUptoRow : OpenClaim := { program := "ytcfddbhkcbflbaa", sum := "a758a132e65acd7222f153f38a8c1232020be89c7a6d60a67cd1e84ab5469c22", func := "theodolite/theodolitelaw11.RankRanks", spec := "rankRanks", unfollowed := true, recurses := true, named := ["math/bits.divideError", "math/bits.overflowError"], apart := false, narrowed := true }
def RankRanksUptoSaid : Prop := rankRanksUptoRow.holds Try.pinned (OpenSpec.upto rankRanksSpec)

/-- 'theodolitelaw11.RankBounds', WHERE WHAT IT READS IS OF BULK AT MOST 1048576: true; the input reads as it did. -/
def rankBoundsUptoRow : OpenClaim := { program := "ytcfddbhkcbflbaa", sum := "a758a132e65acd7222f153f38a8c1232020be89c7a6d60a67cd1e84ab5469c22", func := "theodolite/theodolitelaw11.RankBounds", spec := "rankBounds", unfollowed := true, recurses := true, named := ["math/bits.divideError", "math/bits.overflowError"], apart := false, narrowed := true }
def RankBoundsUptoSaid : Prop := rankBoundsUptoRow.holds Try.pinned (OpenSpec.upto rankBoundsSpec)

/-- 'theodolitelaw11.RankLeast', WHERE WHAT IT READS IS OF BULK AT MOST 1048576: true; the input reads as it did. -/
def rankLeastUptoRow : OpenClaim := { program := "ytcfddbhkcbflbaa", sum := "a758a132e65acd7222f153f38a8c1232020be89c7a6d60a67cd1e84ab5469c22", func := "theodolite/theodolitelaw11.RankLeast", spec := "rankLeast", unfollowed := true, recurses := true, named := ["math/bits.divideError", "math/bits.overflowError"], apart := false, narrowed := true }
def RankLeastUptoSaid : Prop := rankLeastUptoRow.holds Try.pinned (OpenSpec.upto rankLeastSpec)

/-- 'theodolitelaw11.RankCmp', WHERE WHAT IT READS IS OF BULK AT MOST 1048576: true; the input reads as it did. -/
def rankCmpUptoRow : OpenClaim := { program := "ytcfddbhkcbflbaa", sum := "a758a132e65acd7222f153f38a8c1232020be89c7a6d60a67cd1e84ab5469c22", func := "theodolite/theodolitelaw11.RankCmp", spec := "rankCmp", unfollowed := true, recurses := true, named := ["math/bits.divideError", "math/bits.overflowError"], apart := false, narrowed := true }
def RankCmpUptoSaid : Prop := rankCmpUptoRow.holds Try.pinned (OpenSpec.upto rankCmpSpec)

/-- 'theodolitelaw11.RankPowers', WHERE WHAT IT READS IS OF BULK AT MOST 1048576: true; the input reads as it did. -/
def rankPowersUptoRow : OpenClaim := { program := "ytcfddbhkcbflbaa", sum := "a758a132e65acd7222f153f38a8c1232020be89c7a6d60a67cd1e84ab5469c22", func := "theodolite/theodolitelaw11.RankPowers", spec := "rankPowers", unfollowed := true, recurses := true, named := ["math/bits.divideError", "math/bits.overflowError"], apart := false, narrowed := true }
def RankPowersUptoSaid : Prop := rankPowersUptoRow.holds Try.pinned (OpenSpec.upto rankPowersSpec)

/-- 'theodolitelaw11.RankCuts', WHERE WHAT IT READS IS OF BULK AT MOST 1048576: true; the input reads as it did. -/
def rankCutsUptoRow : OpenClaim := { program := "ytcfddbhkcbflbaa", sum := "a758a132e65acd7222f153f38a8c1232020be89c7a6d60a67cd1e84ab5469c22", func := "theodolite/theodolitelaw11.RankCuts", spec := "rankCuts", unfollowed := true, recurses := true, named := ["math/bits.divideError", "math/bits.overflowError"], apart := false, narrowed := true }
def RankCutsUptoSaid : Prop := rankCutsUptoRow.holds Try.pinned (OpenSpec.upto rankCutsSpec)

end Rows
end Go.Proofs.Ytcfddbhkcbflbaa
