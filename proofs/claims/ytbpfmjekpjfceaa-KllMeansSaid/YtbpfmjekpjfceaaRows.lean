/-
  No cell of these rows narrows 'for every input' (looked for: loops, veiled, ifaces, maps, wideKeys, modest, calm, conditions, laid).
  DERIVED. THE GIVEN ROWS OF THIS SEAT. 9 by the template 'for every input the law returns true; each argument reads behind the call as it read before'; 0 by the template 'total and deterministic' (their statements: YtbpfmjekpjfceaaTotals.lean).
  GIVEN WITH THE SEED: the statements are not yours to turn. If you find one false, say at which input.
  Laid BY PROGRAM, IN A SANDBOX (cutbox-rows.mjs): the forced cells as the released guide's own fill.sh prints them over the translation 75984e0b878add2f… (all of the seat's roots in one cut). By AI agents, Wed Nov 11 2026. No macro, syntax, notation, axiom, sorry.
-/
import Derived.Test.YtbpfmjekpjfceaaChecked
import GoSem.Claim
import GoSem.ClaimJoined
import GoSem.ClaimMapViews
import Derived.JoinedTies
import Derived.KernelRfl
namespace Go.Proofs.Ytbpfmjekpjfceaa
/- THE CELL 'sum', in the pinned program and in every row, IS THE sha256 OF THE DUMP (.gsa) THAT YtbpfmjekpjfceaaProg.lean LOADS. Nothing in Lean hashes anything: it is a label: what it is worth is what the hold of that sum in a sandbox is worth. -/
noncomputable def Try.pinned : Pinned := { name := "ytbpfmjekpjfceaa", sum := "75984e0b878add2f89e8873237e3a59b60711ead56d8b0c7577f2f0a49521ea4", checked := Try.checked }
namespace Rows
def none {H : Type} : Left H := { results := [], args := [] }

/-- 'theodolitelaw24.KllPlays': WHATEVER THE INPUT: true; the input reads as it did. -/
def kllPlaysSpec : ChangeSpec := { name := "kllPlays", fn := fun _ => fun
  | [d1, d2, d3] => { results := [.lit (.bool true)], args := [d1, d2, d3] }
  | _ => none }
def kllPlaysRow : OpenClaim := { program := "ytbpfmjekpjfceaa", sum := "75984e0b878add2f89e8873237e3a59b60711ead56d8b0c7577f2f0a49521ea4", func := "theodolite/theodolitelaw24.KllPlays", spec := "kllPlays", unfollowed := true, recurses := true, named := ["math/bits.divideError", "math/bits.overflowError"], apart := false }
def KllPlaysSaid : Prop := kllPlaysRow.holds Try.pinned (OpenSpec.ofChange kllPlaysSpec)

/-- ITS FALSE NEIGHBOUR: 'it returns false'. Refute it at one input. -/
def kllPlaysWrong : ChangeSpec := { name := "kllPlays", fn := fun _ => fun
  | [d1, d2, d3] => { results := [.lit (.bool false)], args := [d1, d2, d3] }
  | _ => none }
def KllPlaysWrongFalsely : Prop := kllPlaysRow.holds Try.pinned (OpenSpec.ofChange kllPlaysWrong)

/-- 'theodolitelaw24.KllCoins': WHATEVER THE INPUT: true; the input reads as it did. -/
def kllCoinsSpec : ChangeSpec := { name := "kllCoins", fn := fun _ => fun
  | [d1, d2, d3] => { results := [.lit (.bool true)], args := [d1, d2, d3] }
  | _ => none }
def kllCoinsRow : OpenClaim := { program := "ytbpfmjekpjfceaa", sum := "75984e0b878add2f89e8873237e3a59b60711ead56d8b0c7577f2f0a49521ea4", func := "theodolite/theodolitelaw24.KllCoins", spec := "kllCoins", unfollowed := true, recurses := true, named := ["math/bits.divideError", "math/bits.overflowError"], apart := false }
def KllCoinsSaid : Prop := kllCoinsRow.holds Try.pinned (OpenSpec.ofChange kllCoinsSpec)

/-- ITS FALSE NEIGHBOUR: 'it returns false'. Refute it at one input. -/
def kllCoinsWrong : ChangeSpec := { name := "kllCoins", fn := fun _ => fun
  | [d1, d2, d3] => { results := [.lit (.bool false)], args := [d1, d2, d3] }
  | _ => none }
def KllCoinsWrongFalsely : Prop := kllCoinsRow.holds Try.pinned (OpenSpec.ofChange kllCoinsWrong)

/-- 'theodolitelaw24.KllAsks': WHATEVER THE INPUT: true; the input reads as it did. -/
def kllAsksSpec : ChangeSpec := { name := "kllAsks", fn := fun _ => fun
  | [d1, d2, d3, d4, d5, d6, d7] => { results := [.lit (.bool true)], args := [d1, d2, d3, d4, d5, d6, d7] }
  | _ => none }
def kllAsksRow : OpenClaim := { program := "ytbpfmjekpjfceaa", sum := "75984e0b878add2f89e8873237e3a59b60711ead56d8b0c7577f2f0a49521ea4", func := "theodolite/theodolitelaw24.KllAsks", spec := "kllAsks", unfollowed := true, recurses := true, named := ["math/bits.divideError", "math/bits.overflowError"], apart := false }
def KllAsksSaid : Prop := kllAsksRow.holds Try.pinned (OpenSpec.ofChange kllAsksSpec)

/-- ITS FALSE NEIGHBOUR: 'it returns false'. Refute it at one input. -/
def kllAsksWrong : ChangeSpec := { name := "kllAsks", fn := fun _ => fun
  | [d1, d2, d3, d4, d5, d6, d7] => { results := [.lit (.bool false)], args := [d1, d2, d3, d4, d5, d6, d7] }
  | _ => none }
def KllAsksWrongFalsely : Prop := kllAsksRow.holds Try.pinned (OpenSpec.ofChange kllAsksWrong)

/-- 'theodolitelaw24.KllNear': WHATEVER THE INPUT: true; the input reads as it did. -/
def kllNearSpec : ChangeSpec := { name := "kllNear", fn := fun _ => fun
  | [d1, d2, d3, d4, d5, d6] => { results := [.lit (.bool true)], args := [d1, d2, d3, d4, d5, d6] }
  | _ => none }
def kllNearRow : OpenClaim := { program := "ytbpfmjekpjfceaa", sum := "75984e0b878add2f89e8873237e3a59b60711ead56d8b0c7577f2f0a49521ea4", func := "theodolite/theodolitelaw24.KllNear", spec := "kllNear", unfollowed := true, recurses := true, named := ["math/bits.divideError", "math/bits.overflowError"], apart := false }
def KllNearSaid : Prop := kllNearRow.holds Try.pinned (OpenSpec.ofChange kllNearSpec)

/-- ITS FALSE NEIGHBOUR: 'it returns false'. Refute it at one input. -/
def kllNearWrong : ChangeSpec := { name := "kllNear", fn := fun _ => fun
  | [d1, d2, d3, d4, d5, d6] => { results := [.lit (.bool false)], args := [d1, d2, d3, d4, d5, d6] }
  | _ => none }
def KllNearWrongFalsely : Prop := kllNearRow.holds Try.pinned (OpenSpec.ofChange kllNearWrong)

/-- 'theodolitelaw24.KllKeeps': WHATEVER THE INPUT: true; the input reads as it did. -/
def kllKeepsSpec : ChangeSpec := { name := "kllKeeps", fn := fun _ => fun
  | [d1, d2, d3, d4] => { results := [.lit (.bool true)], args := [d1, d2, d3, d4] }
  | _ => none }
def kllKeepsRow : OpenClaim := { program := "ytbpfmjekpjfceaa", sum := "75984e0b878add2f89e8873237e3a59b60711ead56d8b0c7577f2f0a49521ea4", func := "theodolite/theodolitelaw24.KllKeeps", spec := "kllKeeps", unfollowed := true, recurses := true, named := ["math/bits.divideError", "math/bits.overflowError"], apart := false }
def KllKeepsSaid : Prop := kllKeepsRow.holds Try.pinned (OpenSpec.ofChange kllKeepsSpec)

/-- ITS FALSE NEIGHBOUR: 'it returns false'. Refute it at one input. -/
def kllKeepsWrong : ChangeSpec := { name := "kllKeeps", fn := fun _ => fun
  | [d1, d2, d3, d4] => { results := [.lit (.bool false)], args := [d1, d2, d3, d4] }
  | _ => none }
def KllKeepsWrongFalsely : Prop := kllKeepsRow.holds Try.pinned (OpenSpec.ofChange kllKeepsWrong)

/-- 'theodolitelaw24.KllTakes': WHATEVER THE INPUT: true; the input reads as it did. -/
def kllTakesSpec : ChangeSpec := { name := "kllTakes", fn := fun _ => fun
  | [d1, d2, d3, d4, d5, d6] => { results := [.lit (.bool true)], args := [d1, d2, d3, d4, d5, d6] }
  | _ => none }
def kllTakesRow : OpenClaim := { program := "ytbpfmjekpjfceaa", sum := "75984e0b878add2f89e8873237e3a59b60711ead56d8b0c7577f2f0a49521ea4", func := "theodolite/theodolitelaw24.KllTakes", spec := "kllTakes", unfollowed := true, recurses := true, named := ["math/bits.divideError", "math/bits.overflowError"], apart := false }
def KllTakesSaid : Prop := kllTakesRow.holds Try.pinned (OpenSpec.ofChange kllTakesSpec)

/-- ITS FALSE NEIGHBOUR: 'it returns false'. Refute it at one input. -/
def kllTakesWrong : ChangeSpec := { name := "kllTakes", fn := fun _ => fun
  | [d1, d2, d3, d4, d5, d6] => { results := [.lit (.bool false)], args := [d1, d2, d3, d4, d5, d6] }
  | _ => none }
def KllTakesWrongFalsely : Prop := kllTakesRow.holds Try.pinned (OpenSpec.ofChange kllTakesWrong)

/-- 'theodolitelaw24.KllLoads': WHATEVER THE INPUT: true; the input reads as it did. -/
def kllLoadsSpec : ChangeSpec := { name := "kllLoads", fn := fun _ => fun
  | [d1, d2, d3, d4, d5, d6] => { results := [.lit (.bool true)], args := [d1, d2, d3, d4, d5, d6] }
  | _ => none }
def kllLoadsRow : OpenClaim := { program := "ytbpfmjekpjfceaa", sum := "75984e0b878add2f89e8873237e3a59b60711ead56d8b0c7577f2f0a49521ea4", func := "theodolite/theodolitelaw24.KllLoads", spec := "kllLoads", unfollowed := true, recurses := true, named := ["math/bits.divideError", "math/bits.overflowError"], apart := false }
def KllLoadsSaid : Prop := kllLoadsRow.holds Try.pinned (OpenSpec.ofChange kllLoadsSpec)

/-- ITS FALSE NEIGHBOUR: 'it returns false'. Refute it at one input. -/
def kllLoadsWrong : ChangeSpec := { name := "kllLoads", fn := fun _ => fun
  | [d1, d2, d3, d4, d5, d6] => { results := [.lit (.bool false)], args := [d1, d2, d3, d4, d5, d6] }
  | _ => none }
def KllLoadsWrongFalsely : Prop := kllLoadsRow.holds Try.pinned (OpenSpec.ofChange kllLoadsWrong)

/-- 'theodolitelaw24.KllAgain': WHATEVER THE INPUT: true; the input reads as it did. -/
def kllAgainSpec : ChangeSpec := { name := "kllAgain", fn := fun _ => fun
  | [d1, d2, d3, d4, d5] => { results := [.lit (.bool true)], args := [d1, d2, d3, d4, d5] }
  | _ => none }
def kllAgainRow : OpenClaim := { program := "ytbpfmjekpjfceaa", sum := "75984e0b878add2f89e8873237e3a59b60711ead56d8b0c7577f2f0a49521ea4", func := "theodolite/theodolitelaw24.KllAgain", spec := "kllAgain", unfollowed := true, recurses := true, named := ["math/bits.divideError", "math/bits.overflowError"], apart := false }
def KllAgainSaid : Prop := kllAgainRow.holds Try.pinned (OpenSpec.ofChange kllAgainSpec)

/-- ITS FALSE NEIGHBOUR: 'it returns false'. Refute it at one input. -/
def kllAgainWrong : ChangeSpec := { name := "kllAgain", fn := fun _ => fun
  | [d1, d2, d3, d4, d5] => { results := [.lit (.bool false)], args := [d1, d2, d3, d4, d5] }
  | _ => none }
def KllAgainWrongFalsely : Prop := kllAgainRow.holds Try.pinned (OpenSpec.ofChange kllAgainWrong)

/-- 'theodolitelaw24.KllMeans': WHATEVER THE INPUT: true; the input reads as it did. -/
def kllMeansSpec : ChangeSpec := { name := "kllMeans", fn := fun _ => fun
  | [d1, d2, d3, d4] => { results := [.lit (.bool true)], args := [d1, d2, d3, d4] }
  | _ => none }
def kllMeansRow : OpenClaim := { program := "ytbpfmjekpjfceaa", sum := "75984e0b878add2f89e8873237e3a59b60711ead56d8b0c7577f2f0a49521ea4", func := "theodolite/theodolitelaw24.KllMeans", spec := "kllMeans", inPlace := ["math/bits.Add64"], unfollowed := true, recurses := true, named := ["math/bits.divideError", "math/bits.overflowError"], apart := false }
def KllMeansSaid : Prop := kllMeansRow.holds Try.pinned (OpenSpec.ofChange kllMeansSpec)

/-- ITS FALSE NEIGHBOUR: 'it returns false'. Refute it at one input. -/
def kllMeansWrong : ChangeSpec := { name := "kllMeans", fn := fun _ => fun
  | [d1, d2, d3, d4] => { results := [.lit (.bool false)], args := [d1, d2, d3, d4] }
  | _ => none }
def KllMeansWrongFalsely : Prop := kllMeansRow.holds Try.pinned (OpenSpec.ofChange kllMeansWrong)

/- THE SECOND FORM. 'bulk': how many values and letters a reading holds, each counted each time it is reached (what is shared counts as often as it is met; a slice's spare places count too). A statement '..UptoSaid' is the law's where the arguments, and the package variables that the reading takes, are together of bulk at most 1048576: NARROWER than '..Said'. Prove '..Said' where nothing that the law and all that it calls make is longer than what came in: it says more and counts as full. Else prove '..UptoSaid'. A law counts once. -/
mutual
def uptoBulk {H : Type} : DataW H → Nat
  | .lit (.string bytes) => bytes.length + 1
  | .lit _ => 1
  | .nil => 1
  | .ptr d => uptoBulk d + 1
  | .slice elems spare => uptoBulkAll elems + uptoBulkAll spare + 1
  | .agg parts => uptoBulkAll parts + 1
  | .iface _ d => uptoBulk d + 1
  | .map entries => uptoBulkEntries entries + 1
  | .held _ => 1
def uptoBulkAll {H : Type} : List (DataW H) → Nat
  | [] => 0
  | d :: r => uptoBulk d + uptoBulkAll r
def uptoBulkEntries {H : Type} : List (Lit × DataW H) → Nat
  | [] => 0
  | x :: r => uptoBulkEntry x + uptoBulkEntries r
def uptoBulkEntry {H : Type} : Lit × DataW H → Nat
  | (.string bytes, d) => bytes.length + uptoBulk d + 1
  | (_, d) => uptoBulk d + 1
 end
def uptoSmall : (H : Type) → List (DataW H) → Bool := fun _ ds => decide (uptoBulkAll ds ≤ 1048576)
def OpenSpec.upto (s : _root_.Go.ChangeSpec) : _root_.Go.OpenSpec := { _root_.Go.OpenSpec.ofChange s with cond := some uptoSmall }

/-- 'theodolitelaw24.KllPlays', WHERE WHAT IT READS IS OF BULK AT MOST 1048576: true; the input reads as it did. -/
def kllPlaysUptoRow : OpenClaim := { program := "ytbpfmjekpjfceaa", sum := "75984e0b878add2f89e8873237e3a59b60711ead56d8b0c7577f2f0a49521ea4", func := "theodolite/theodolitelaw24.KllPlays", spec := "kllPlays", unfollowed := true, recurses := true, named := ["math/bits.divideError", "math/bits.overflowError"], apart := false, narrowed := true }
def KllPlaysUptoSaid : Prop := kllPlaysUptoRow.holds Try.pinned (OpenSpec.upto kllPlaysSpec)

/-- 'theodolitelaw24.KllCoins', WHERE WHAT IT READS IS OF BULK AT MOST 1048576: true; the input reads as it did. -/
def kllCoinsUptoRow : OpenClaim := { program := "ytbpfmjekpjfceaa", sum := "75984e0b878add2f89e8873237e3a59b60711ead56d8b0c7577f2f0a49521ea4", func := "theodolite/theodolitelaw24.KllCoins", spec := "kllCoins", unfollowed := true, recurses := true, named := ["math/bits.divideError", "math/bits.overflowError"], apart := false, narrowed := true }
def KllCoinsUptoSaid : Prop := kllCoinsUptoRow.holds Try.pinned (OpenSpec.upto kllCoinsSpec)

/-- 'theodolitelaw24.KllAsks', WHERE WHAT IT READS IS OF BULK AT MOST 1048576: true; the input reads as it did. -/
def kllAsksUptoRow : OpenClaim := { program := "ytbpfmjekpjfceaa", sum := "75984e0b878add2f89e8873237e3a59b60711ead56d8b0c7577f2f0a49521ea4", func := "theodolite/theodolitelaw24.KllAsks", spec := "kllAsks", unfollowed := true, recurses := true, named := ["math/bits.divideError", "math/bits.overflowError"], apart := false, narrowed := true }
def KllAsksUptoSaid : Prop := kllAsksUptoRow.holds Try.pinned (OpenSpec.upto kllAsksSpec)

/-- 'theodolitelaw24.KllNear', WHERE WHAT IT READS IS OF BULK AT MOST 1048576: true; the input reads as it did. -/
def kllNearUptoRow : OpenClaim := { program := "ytbpfmjekpjfceaa", sum := "75984e0b878add2f89e8873237e3a59b60711ead56d8b0c7577f2f0a49521ea4", func := "theodolite/theodolitelaw24.KllNear", spec := "kllNear", unfollowed := true, recurses := true, named := ["math/bits.divideError", "math/bits.overflowError"], apart := false, narrowed := true }
def KllNearUptoSaid : Prop := kllNearUptoRow.holds Try.pinned (OpenSpec.upto kllNearSpec)

/-- 'theodolitelaw24.KllKeeps', WHERE WHAT IT READS IS OF BULK AT MOST 1048576: true; the input reads as it did. -/
def kllKeepsUptoRow : OpenClaim := { program := "ytbpfmjekpjfceaa", sum := "75984e0b878add2f89e8873237e3a59b60711ead56d8b0c7577f2f0a49521ea4", func := "theodolite/theodolitelaw24.KllKeeps", spec := "kllKeeps", unfollowed := true, recurses := true, named := ["math/bits.divideError", "math/bits.overflowError"], apart := false, narrowed := true }
def KllKeepsUptoSaid : Prop := kllKeepsUptoRow.holds Try.pinned (OpenSpec.upto kllKeepsSpec)

/-- 'theodolitelaw24.KllTakes', WHERE WHAT IT READS IS OF BULK AT MOST 1048576: true; the input reads as it did. -/
def kllTakesUptoRow : OpenClaim := { program := "ytbpfmjekpjfceaa", sum := "75984e0b878add2f89e8873237e3a59b60711ead56d8b0c7577f2f0a49521ea4", func := "theodolite/theodolitelaw24.KllTakes", spec := "kllTakes", unfollowed := true, recurses := true, named := ["math/bits.divideError", "math/bits.overflowError"], apart := false, narrowed := true }
def KllTakesUptoSaid : Prop := kllTakesUptoRow.holds Try.pinned (OpenSpec.upto kllTakesSpec)

/-- 'theodolitelaw24.KllLoads', WHERE WHAT IT READS IS OF BULK AT MOST 1048576: true; the input reads as it did. -/
def kllLoadsUptoRow : OpenClaim := { program := "ytbpfmjekpjfceaa", sum := "75984e0b878add2f89e8873237e3a59b60711ead56d8b0c7577f2f0a49521ea4", func := "theodolite/theodolitelaw24.KllLoads", spec := "kllLoads", unfollowed := true, recurses := true, named := ["math/bits.divideError", "math/bits.overflowError"], apart := false, narrowed := true }
def KllLoadsUptoSaid : Prop := kllLoadsUptoRow.holds Try.pinned (OpenSpec.upto kllLoadsSpec)

/-- 'theodolitelaw24.KllAgain', WHERE WHAT IT READS IS OF BULK AT MOST 1048576: true; the input reads as it did. -/
def kllAgainUptoRow : OpenClaim := { program := "ytbpfmjekpjfceaa", sum := "75984e0b878add2f89e8873237e3a59b60711ead56d8b0c7577f2f0a49521ea4", func := "theodolite/theodolitelaw24.KllAgain", spec := "kllAgain", unfollowed := true, recurses := true, named := ["math/bits.divideError", "math/bits.overflowError"], apart := false, narrowed := true }
def KllAgainUptoSaid : Prop := kllAgainUptoRow.holds Try.pinned (OpenSpec.upto kllAgainSpec)

/-- 'theodolitelaw24.KllMeans', WHERE WHAT IT READS IS OF BULK AT MOST 1048576: true; the input reads as it did. -/
def kllMeansUptoRow : OpenClaim := { program := "ytbpfmjekpjfceaa", sum := "75984e0b878add2f89e8873237e3a59b60711ead56d8b0c7577f2f0a49521ea4", func := "theodolite/theodolitelaw24.KllMeans", spec := "kllMeans", inPlace := ["math/bits.Add64"], unfollowed := true, recurses := true, named := ["math/bits.divideError", "math/bits.overflowError"], apart := false, narrowed := true }
def KllMeansUptoSaid : Prop := kllMeansUptoRow.holds Try.pinned (OpenSpec.upto kllMeansSpec)

end Rows
end Go.Proofs.Ytbpfmjekpjfceaa
