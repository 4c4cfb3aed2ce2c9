/- DgLawWeights -/
import Derived.Test.YticagdppjknlaaaPp1
import Derived.Test.YticagdppjknlaaaPp2
import Derived.Test.YticagdppjknlaaaPp3
import Derived.Test.YticagdppjknlaaaPp4
import Derived.Test.YticagdppjknlaaaPp5
import Derived.Test.YticagdppjknlaaaPp6
import Derived.Test.YticagdppjknlaaaPp7
import Derived.Test.YticagdppjknlaaaPp8
import Derived.Test.YticagdppjknlaaaPp9
import Derived.Test.YticagdppjknlaaaPp10
import Derived.Test.YticagdppjknlaaaPp11
import Derived.Test.YticagdppjknlaaaPp12
import Derived.Test.YticagdppjknlaaaPp13
import Derived.Test.YticagdppjknlaaaPp14
import Derived.Test.YticagdppjknlaaaPp15
import Derived.Test.YticagdppjknlaaaPp16
import Derived.Test.YticagdppjknlaaaPp17
import Derived.Test.YticagdppjknlaaaPp18
import Derived.Test.YticagdppjknlaaaPp19
import Derived.Test.YticagdppjknlaaaPp20
import Derived.Test.YticagdppjknlaaaPp21
import Derived.BigQuiet
import Derived.BigRegion
import Derived.Deep.RegionLaw
import Derived.Deep.RegionHeld3
import Derived.StillTailTactics
import Derived.Maps.AppendAt
import Derived.Laws.AppendOwnNone
import Derived.Laws.OwnMore
import Derived.Lib.AppendZerosOnto
import Derived.Lib.SliceRun
import Derived.Lib.Walk
import Derived.Laws.Externs
import Derived.Shelf.Spec.BitsCarry
import Derived.Deep.CutBlock
import Derived.Deep.CutRange
import Derived.Deep.DeepCutAuto
import Derived.Lib.BitFns
import Derived.Shelf.Small.Bits
import Derived.Shelf.Strconv.Itoa0
import Derived.Shelf.Bits.Mul64
import Derived.Test.YticagdppjknlaaaRows
import Derived.WalkKit
import Derived.WalkSpells
import Derived.WalkLawsBesides
import Derived.Deep.QuietTactic
import Derived.RegionTactic
import Derived.Deep.AppendLies
import Derived.Laws.ResultCell
import Derived.Laws.EntriesVeiled
import Derived.Lib.Hide
import Derived.Laws.BytesArg
import Derived.Lib.SlBytesConst
set_option maxRecDepth 100000
set_option maxHeartbeats 8000000
namespace Go.Proofs.Yticagdppjknlaaa
open Go.RowKit
theorem Both.back {w0 w W : World} {g r : Nat} {x y : Dg} (bo : Both w W g r x y) (f : Fr S0 w0 w) : Both w0 W g r x y :=
  let ⟨C, R, x1, x2, x3, x4, x5⟩ := bo.ex
  ⟨⟨C, R, x1, x2, x3, fun b hb => Nat.le_trans f.size (x4 b hb), fun b hb => Nat.le_trans f.size (x5 b hb)⟩, f.trans0 bo.fr⟩
section
variable (d : Nat) (p : Option Addr) (n c : Nat) (vs : List Int) (q : Option Addr) (k c2 : Nat) (ns : List Nat) (w : World)
end
end Go.Proofs.Yticagdppjknlaaa
