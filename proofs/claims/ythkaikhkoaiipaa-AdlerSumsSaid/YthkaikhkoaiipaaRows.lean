/-
  No cell of these rows narrows 'for every input' (looked for: loops, veiled, ifaces, maps, wideKeys, modest, calm, conditions, laid).
  DERIVED. THE GIVEN ROWS OF THIS SEAT. 4 by the template 'for every input the law returns true; each argument reads behind the call as it read before'; 0 by the template 'total and deterministic' (their statements: YthkaikhkoaiipaaTotals.lean).
  GIVEN WITH THE SEED: the statements are not yours to turn. If you find one false, say at which input.
  Laid BY PROGRAM, IN A SANDBOX (cutbox-rows.mjs): the forced cells as the released guide's own fill.sh prints them over the translation 3c256b77d53e82a4… (all of the seat's roots in one cut). By AI agents, Wed Nov 11 2026. No macro, syntax, notation, axiom, sorry.
-/
import Derived.Test.YthkaikhkoaiipaaChecked
import GoSem.Claim
import GoSem.ClaimJoined
import GoSem.ClaimMapViews
import Derived.JoinedTies
import Derived.KernelRfl
namespace Go.Proofs.Ythkaikhkoaiipaa
/- THE CELL 'sum', in the pinned program and in every row, IS THE sha256 OF THE DUMP (.gsa) THAT YthkaikhkoaiipaaProg.lean LOADS. Nothing in Lean hashes anything: it is a label: what it is worth is what the hold of that sum in a sandbox is worth. -/
noncomputable def Try.pinned : Pinned := { name := "ythkaikhkoaiipaa", sum := "3c256b77d53e82a4a1abc99ac71e0a0fd0fe8064dbd606833e7bcfaef0dcc7cc", checked := Try.checked }
namespace Rows
def none {H : Type} : Left H := { results := [], args := [] }

/-- 'theodolitelaw03.AdlerSums': WHATEVER THE INPUT: true; the input reads as it did. -/
def adlerSumsSpec : ChangeSpec := { name := "adlerSums", fn := fun _ => fun
  | [d1, d2] => { results := [.lit (.bool true)], args := [d1, d2] }
  | _ => none }
def adlerSumsRow : OpenClaim := { program := "ythkaikhkoaiipaa", sum := "3c256b77d53e82a4a1abc99ac71e0a0fd0fe8064dbd606833e7bcfaef0dcc7cc", func := "theodolite/theodolitelaw03.AdlerSums", spec := "adlerSums", unfollowed := true, recurses := true, apart := false }
def AdlerSumsSaid : Prop := adlerSumsRow.holds Try.pinned (OpenSpec.ofChange adlerSumsSpec)

/-- ITS FALSE NEIGHBOUR: 'it returns false'. Refute it at one input. -/
def adlerSumsWrong : ChangeSpec := { name := "adlerSums", fn := fun _ => fun
  | [d1, d2] => { results := [.lit (.bool false)], args := [d1, d2] }
  | _ => none }
def AdlerSumsWrongFalsely : Prop := adlerSumsRow.holds Try.pinned (OpenSpec.ofChange adlerSumsWrong)

/-- 'theodolitelaw03.AdlerJoins': WHATEVER THE INPUT: true; the input reads as it did. -/
def adlerJoinsSpec : ChangeSpec := { name := "adlerJoins", fn := fun _ => fun
  | [d1, d2] => { results := [.lit (.bool true)], args := [d1, d2] }
  | _ => none }
def adlerJoinsRow : OpenClaim := { program := "ythkaikhkoaiipaa", sum := "3c256b77d53e82a4a1abc99ac71e0a0fd0fe8064dbd606833e7bcfaef0dcc7cc", func := "theodolite/theodolitelaw03.AdlerJoins", spec := "adlerJoins", unfollowed := true, recurses := true, apart := false }
def AdlerJoinsSaid : Prop := adlerJoinsRow.holds Try.pinned (OpenSpec.ofChange adlerJoinsSpec)

/-- ITS FALSE NEIGHBOUR: 'it returns false'. Refute it at one input. -/
def adlerJoinsWrong : ChangeSpec := { name := "adlerJoins", fn := fun _ => fun
  | [d1, d2] => { results := [.lit (.bool false)], args := [d1, d2] }
  | _ => none }
def AdlerJoinsWrongFalsely : Prop := adlerJoinsRow.holds Try.pinned (OpenSpec.ofChange adlerJoinsWrong)

/-- 'theodolitelaw03.AdlerAny': WHATEVER THE INPUT: true; the input reads as it did. -/
def adlerAnySpec : ChangeSpec := { name := "adlerAny", fn := fun _ => fun
  | [d1, d2, d3] => { results := [.lit (.bool true)], args := [d1, d2, d3] }
  | _ => none }
def adlerAnyRow : OpenClaim := { program := "ythkaikhkoaiipaa", sum := "3c256b77d53e82a4a1abc99ac71e0a0fd0fe8064dbd606833e7bcfaef0dcc7cc", func := "theodolite/theodolitelaw03.AdlerAny", spec := "adlerAny", unfollowed := true, recurses := true, apart := false }
def AdlerAnySaid : Prop := adlerAnyRow.holds Try.pinned (OpenSpec.ofChange adlerAnySpec)

/-- ITS FALSE NEIGHBOUR: 'it returns false'. Refute it at one input. -/
def adlerAnyWrong : ChangeSpec := { name := "adlerAny", fn := fun _ => fun
  | [d1, d2, d3] => { results := [.lit (.bool false)], args := [d1, d2, d3] }
  | _ => none }
def AdlerAnyWrongFalsely : Prop := adlerAnyRow.holds Try.pinned (OpenSpec.ofChange adlerAnyWrong)

/-- 'theodolitelaw03.AdlerByte': WHATEVER THE INPUT: true; the input reads as it did. -/
def adlerByteSpec : ChangeSpec := { name := "adlerByte", fn := fun _ => fun
  | [d1, d2, d3] => { results := [.lit (.bool true)], args := [d1, d2, d3] }
  | _ => none }
def adlerByteRow : OpenClaim := { program := "ythkaikhkoaiipaa", sum := "3c256b77d53e82a4a1abc99ac71e0a0fd0fe8064dbd606833e7bcfaef0dcc7cc", func := "theodolite/theodolitelaw03.AdlerByte", spec := "adlerByte", unfollowed := true, recurses := true, apart := false }
def AdlerByteSaid : Prop := adlerByteRow.holds Try.pinned (OpenSpec.ofChange adlerByteSpec)

/-- ITS FALSE NEIGHBOUR: 'it returns false'. Refute it at one input. -/
def adlerByteWrong : ChangeSpec := { name := "adlerByte", fn := fun _ => fun
  | [d1, d2, d3] => { results := [.lit (.bool false)], args := [d1, d2, d3] }
  | _ => none }
def AdlerByteWrongFalsely : Prop := adlerByteRow.holds Try.pinned (OpenSpec.ofChange adlerByteWrong)

/- THE SECOND FORM. 'bulk': how many values and letters a reading holds, each counted each time it is reached (what is shared counts as often as it is met; a slice's spare places count too). A statement '..UptoSaid' is the law's where the arguments, and the package variables that the reading takes, are together of bulk at most 1048576: NARROWER than '..Said'. Prove '..Said' where nothing that the law and all that it calls make is longer than what came in: it says more and counts as full. Else prove '..UptoSaid'. A law counts once. -/
mutual
def uptoBulk {H : Type} : DataW H → Nat
  | .lit (.string bytes) => bytes.length + 1
  | .lit _ => 1
  | .nil => 1
  | .ptr d => uptoBulk d + 1
  | .slice elems spare => uptoBulkAll elems + uptoBulkAll spare + 1
  | .agg parts => uptoBulkAll parts + 1
  | .iface _ d => uptoBulk d + 1
  | .map entries => uptoBulkEntries entries + 1
  | .held _ => 1
def uptoBulkAll {H : Type} : List (DataW H) → Nat
  | [] => 0
  | d :: r => uptoBulk d + uptoBulkAll r
def uptoBulkEntries {H : Type} : List (Lit × DataW H) → Nat
  | [] => 0
  | x :: r => uptoBulkEntry x + uptoBulkEntries r
def uptoBulkEntry {H : Type} : Lit × DataW H → Nat
  | (.string bytes, d) => bytes.length + uptoBulk d + 1
  | (_, d) => uptoBulk d + 1
 end
def uptoSmall : (H : Type) → List (DataW H) → Bool := fun _ ds => decide (uptoBulkAll ds ≤ 1048576)
def OpenSpec.upto (s : _root_.Go.ChangeSpec) : _root_.Go.OpenSpec := { _root_.Go.OpenSpec.ofChange s with cond := some uptoSmall }

/-- 'theodolitelaw03.AdlerSums', WHERE WHAT IT READS IS OF BULK AT MOST 1048576: true; the input reads as it did. -/
def adlerSumsUptoRow : OpenClaim := { program := "ythkaikhkoaiipaa", sum := "3c256b77d53e82a4a1abc99ac71e0a0fd0fe8064dbd606833e7bcfaef0dcc7cc", func := "theodolite/theodolitelaw03.AdlerSums", spec := "adlerSums", unfollowed := true, recurses := true, apart := false, narrowed := true }
def AdlerSumsUptoSaid : Prop := adlerSumsUptoRow.holds Try.pinned (OpenSpec.upto adlerSumsSpec)

/-- 'theodolitelaw03.AdlerJoins', WHERE WHAT IT READS IS OF BULK AT MOST 1048576: true; the input reads as it did. -/
def adlerJoinsUptoRow : OpenClaim := { program := "ythkaikhkoaiipaa", sum := "3c256b77d53e82a4a1abc99ac71e0a0fd0fe8064dbd606833e7bcfaef0dcc7cc", func := "theodolite/theodolitelaw03.AdlerJoins", spec := "adlerJoins", unfollowed := true, recurses := true, apart := false, narrowed := true }
def AdlerJoinsUptoSaid : Prop := adlerJoinsUptoRow.holds Try.pinned (OpenSpec.upto adlerJoinsSpec)

/-- 'theodolitelaw03.AdlerAny', WHERE WHAT IT READS IS OF BULK AT MOST 1048576: true; the input reads as it did. -/
def adlerAnyUptoRow : OpenClaim := { program := "ythkaikhkoaiipaa", sum := "3c256b77d53e82a4a1abc99ac71e0a0fd0fe8064dbd606833e7bcfaef0dcc7cc", func := "theodolite/theodolitelaw03.AdlerAny", spec := "adlerAny", unfollowed := true, recurses := true, apart := false, narrowed := true }
def AdlerAnyUptoSaid : Prop := adlerAnyUptoRow.holds Try.pinned (OpenSpec.upto adlerAnySpec)

/-- 'theodolitelaw03.AdlerByte', WHERE WHAT IT READS IS OF BULK AT MOST 1048576: true; the input reads as it did. -/
def adlerByteUptoRow : OpenClaim := { program := "ythkaikhkoaiipaa", sum := "3c256b77d53e82a4a1abc99ac71e0a0fd0fe8064dbd606833e7bcfaef0dcc7cc", func := "theodolite/theodolitelaw03.AdlerByte", spec := "adlerByte", unfollowed := true, recurses := true, apart := false, narrowed := true }
def AdlerByteUptoSaid : Prop := adlerByteUptoRow.holds Try.pinned (OpenSpec.upto adlerByteSpec)

end Rows
end Go.Proofs.Ythkaikhkoaiipaa
