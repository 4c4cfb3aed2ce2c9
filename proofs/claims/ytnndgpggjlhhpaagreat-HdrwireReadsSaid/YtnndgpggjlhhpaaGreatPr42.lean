/- HwOpen -/
import Derived.Test.YtnndgpggjlhhpaaGreatPr1
import Derived.Test.YtnndgpggjlhhpaaGreatPr2
import Derived.Test.YtnndgpggjlhhpaaGreatPr3
import Derived.Test.YtnndgpggjlhhpaaGreatPr4
import Derived.Test.YtnndgpggjlhhpaaGreatPr5
import Derived.Test.YtnndgpggjlhhpaaGreatPr6
import Derived.Test.YtnndgpggjlhhpaaGreatPr7
import Derived.Test.YtnndgpggjlhhpaaGreatPr8
import Derived.Test.YtnndgpggjlhhpaaGreatPr9
import Derived.Test.YtnndgpggjlhhpaaGreatPr10
import Derived.Test.YtnndgpggjlhhpaaGreatPr11
import Derived.Test.YtnndgpggjlhhpaaGreatPr12
import Derived.Test.YtnndgpggjlhhpaaGreatPr13
import Derived.Test.YtnndgpggjlhhpaaGreatPr14
import Derived.Test.YtnndgpggjlhhpaaGreatPr15
import Derived.Test.YtnndgpggjlhhpaaGreatPr16
import Derived.Test.YtnndgpggjlhhpaaGreatPr17
import Derived.Test.YtnndgpggjlhhpaaGreatPr18
import Derived.Test.YtnndgpggjlhhpaaGreatPr19
import Derived.Test.YtnndgpggjlhhpaaGreatPr20
import Derived.Test.YtnndgpggjlhhpaaGreatPr21
import Derived.Test.YtnndgpggjlhhpaaGreatPr22
import Derived.Test.YtnndgpggjlhhpaaGreatPr23
import Derived.Test.YtnndgpggjlhhpaaGreatPr24
import Derived.Test.YtnndgpggjlhhpaaGreatPr25
import Derived.Test.YtnndgpggjlhhpaaGreatPr26
import Derived.Test.YtnndgpggjlhhpaaGreatPr27
import Derived.Test.YtnndgpggjlhhpaaGreatPr28
import Derived.Test.YtnndgpggjlhhpaaGreatPr29
import Derived.Test.YtnndgpggjlhhpaaGreatPr30
import Derived.Test.YtnndgpggjlhhpaaGreatPr31
import Derived.Test.YtnndgpggjlhhpaaGreatPr32
import Derived.Test.YtnndgpggjlhhpaaGreatPr33
import Derived.Test.YtnndgpggjlhhpaaGreatPr34
import Derived.Test.YtnndgpggjlhhpaaGreatPr35
import Derived.Test.YtnndgpggjlhhpaaGreatPr36
import Derived.Test.YtnndgpggjlhhpaaGreatPr37
import Derived.Test.YtnndgpggjlhhpaaGreatPr38
import Derived.Test.YtnndgpggjlhhpaaGreatPr39
import Derived.Test.YtnndgpggjlhhpaaGreatPr40
import Derived.Test.YtnndgpggjlhhpaaGreatPr41
import Derived.Deep.Fields
import Derived.Deep.Matrix
import Derived.OpenShut
import Derived.WalkKit
import Derived.WalkSpells
import Derived.WalkLawsBesides
import Derived.Deep.QuietTactic
import Derived.BigQuiet
import Derived.RegionTactic
import Derived.Deep.AppendLies
import Derived.Deep.RegionLaw
import Derived.Laws.ResultCell
import Derived.Laws.EntriesVeiled
import Derived.Lib.Hide
import Derived.Test.YtnndgpggjlhhpaaGreatRows
import Derived.BigRegion
import Derived.RangeFuncNested
import Derived.RangeFuncBound
import Derived.RangeFuncCalls
import Derived.RangeFuncLeaves
import Derived.Shelf.Abstract
import Derived.Shelf.RegionOpen
import Derived.OwnWalkIn
import Derived.TacticsInMore
import Derived.LoopNIn
import Derived.LoopIn
import Derived.Sort.BigQuietIn
import Derived.Lib.Repeat
import Derived.StillTailTactics
import Derived.Laws.BitsAllLaws
import Derived.Laws.BytesArg
import Derived.Lib.SlBytesConst
import Derived.Maps.AppendAt
import Derived.Laws.AppendOwnNone
import Derived.Maps.RangeWalk
import Derived.Deep.RegionHeld3
import Derived.Deep.CutBlock
import Derived.Deep.DeepCutAuto
import Derived.Deep.CutRange
import Derived.Lib.BitFns
import Derived.Shelf.Small.Bits
import Derived.Shelf.Strconv.Itoa0
import Derived.Shelf.Bits.Mul64
import Derived.Laws.Externs
import Derived.Shelf.Spec.BitsCarry
import Derived.Shelf.SlSortCmp.WholeK
import Derived.Shelf.Strings.Repeat
import Derived.Lib.AppendZerosOnto
import Derived.Lib.SliceRun
import Derived.Lib.Walk
import Derived.Laws.MakeOwn
import Derived.Laws.OwnMore
import Derived.IntWalk
import Derived.Lib.MakeNoZero
import Derived.Laws.CopyOwn
import Derived.Laws.Tables
import Derived.Defers
import Derived.Recover
import Derived.DeepKeys4
import Derived.WideKeyPair
import Derived.MapKept
import Derived.ChangeMaps
import Derived.Laws.Cover3
import Derived.Stop.BytesEq
set_option maxRecDepth 100000
set_option maxHeartbeats 8000000
namespace Go.Proofs.YtnndgpggjlhhpaaGreat
open Go.RowKit Go.ChangeShapes Go.WideShapes Go.Deep
theorem bsOpen {H : Type} {enc : TypeId × Value → H} {W : World} {base : Nat} {held : Bool} {fuel len cap : Nat} {a0 : Option Addr} {x : DataW H × List MemPlace}
    (hf : DataW.trod enc Tryz.prog W base (fun _ => true) held fuel 31 [.slice a0 len cap] = some x) :
    ∃ l : List Nat, l.length = len ∧ SlI W .u8 a0 l ∧ (∀ v ∈ l, v < 256) ∧ (a0 = none → cap = 0) ∧ len ≤ cap ∧ cap ≤ maxLen := by
  obtain ⟨zs, hrow⟩ : ∃ zs : List Int, (a0 = none ∧ len = 0 ∧ cap = 0 ∧ zs = []) ∨ ∃ x, a0 = some x ∧ len ≤ cap ∧ cap ≤ maxLen ∧ zs.length = cap ∧ (∀ i, i < zs.length → W.cell? (x.add i) = some (.int .u8 (zs.getD i 0))) ∧ ∀ n ∈ zs, (Lit.int .u8 n).wf = true := by
    rcases open_ints Tryz.underlying31 Tryz.underlying5 (by kernel_rfl) hf with ⟨hcs, _⟩ | ⟨x, l, c, zs, hcs, _, hl, hm, hz, _, hcell, hwz⟩
    · simp only [List.cons.injEq, Value.slice.injEq, and_true] at hcs
      obtain ⟨rfl, rfl, rfl⟩ := hcs
      exact ⟨[], .inl ⟨rfl, rfl, rfl, rfl⟩⟩
    · simp only [List.cons.injEq, Value.slice.injEq, and_true] at hcs
      obtain ⟨rfl, rfl, rfl⟩ := hcs
      exact ⟨zs, .inr ⟨_, rfl, hl, hm, by simpa using hz, hcell, hwz⟩⟩
  obtain ⟨l, h1, h2, h3, h4, h5⟩ := rowOpen (B := 256) (fun n hn => by have := bounds_u8 hn; omega) hrow
  exact ⟨l, h1, h2, h3, h4, h5, rowCap hrow⟩
end Go.Proofs.YtnndgpggjlhhpaaGreat
