/- HwOpen -/
import Derived.Test.YtnndgpggjlhhpaaGreatPt1
import Derived.Test.YtnndgpggjlhhpaaGreatPt2
import Derived.Test.YtnndgpggjlhhpaaGreatPt3
import Derived.Test.YtnndgpggjlhhpaaGreatPt4
import Derived.Test.YtnndgpggjlhhpaaGreatPt5
import Derived.Test.YtnndgpggjlhhpaaGreatPt6
import Derived.Test.YtnndgpggjlhhpaaGreatPt7
import Derived.Test.YtnndgpggjlhhpaaGreatPt8
import Derived.Test.YtnndgpggjlhhpaaGreatPt9
import Derived.Test.YtnndgpggjlhhpaaGreatPt10
import Derived.Test.YtnndgpggjlhhpaaGreatPt11
import Derived.Test.YtnndgpggjlhhpaaGreatPt12
import Derived.Test.YtnndgpggjlhhpaaGreatPt13
import Derived.Test.YtnndgpggjlhhpaaGreatPt14
import Derived.Test.YtnndgpggjlhhpaaGreatPt15
import Derived.Test.YtnndgpggjlhhpaaGreatPt16
import Derived.Test.YtnndgpggjlhhpaaGreatPt17
import Derived.Test.YtnndgpggjlhhpaaGreatPt18
import Derived.Test.YtnndgpggjlhhpaaGreatPt19
import Derived.Test.YtnndgpggjlhhpaaGreatPt20
import Derived.Test.YtnndgpggjlhhpaaGreatPt21
import Derived.Test.YtnndgpggjlhhpaaGreatPt22
import Derived.Test.YtnndgpggjlhhpaaGreatPt23
import Derived.Test.YtnndgpggjlhhpaaGreatPt24
import Derived.Test.YtnndgpggjlhhpaaGreatPt25
import Derived.Test.YtnndgpggjlhhpaaGreatPt26
import Derived.Test.YtnndgpggjlhhpaaGreatPt27
import Derived.Test.YtnndgpggjlhhpaaGreatPt28
import Derived.Test.YtnndgpggjlhhpaaGreatPt29
import Derived.Test.YtnndgpggjlhhpaaGreatPt30
import Derived.Test.YtnndgpggjlhhpaaGreatPt31
import Derived.Test.YtnndgpggjlhhpaaGreatPt32
import Derived.Test.YtnndgpggjlhhpaaGreatPt33
import Derived.Test.YtnndgpggjlhhpaaGreatPt34
import Derived.Test.YtnndgpggjlhhpaaGreatPt35
import Derived.Test.YtnndgpggjlhhpaaGreatPt36
import Derived.Test.YtnndgpggjlhhpaaGreatPt37
import Derived.Test.YtnndgpggjlhhpaaGreatPt38
import Derived.Test.YtnndgpggjlhhpaaGreatPt39
import Derived.Deep.Fields
import Derived.Deep.Matrix
import Derived.OpenShut
import Derived.WalkKit
import Derived.WalkSpells
import Derived.WalkLawsBesides
import Derived.Deep.QuietTactic
import Derived.BigQuiet
import Derived.RegionTactic
import Derived.Deep.AppendLies
import Derived.Deep.RegionLaw
import Derived.Laws.ResultCell
import Derived.Laws.EntriesVeiled
import Derived.Lib.Hide
import Derived.Test.YtnndgpggjlhhpaaGreatRows
import Derived.BigRegion
import Derived.RangeFuncNested
import Derived.RangeFuncBound
import Derived.RangeFuncCalls
import Derived.RangeFuncLeaves
import Derived.Shelf.Abstract
import Derived.Shelf.RegionOpen
import Derived.OwnWalkIn
import Derived.TacticsInMore
import Derived.LoopNIn
import Derived.LoopIn
import Derived.Sort.BigQuietIn
import Derived.Lib.Repeat
import Derived.StillTailTactics
import Derived.Laws.BitsAllLaws
import Derived.Laws.BytesArg
import Derived.Lib.SlBytesConst
import Derived.Maps.AppendAt
import Derived.Laws.AppendOwnNone
import Derived.Maps.RangeWalk
import Derived.Deep.RegionHeld3
import Derived.Deep.CutBlock
import Derived.Deep.DeepCutAuto
import Derived.Deep.CutRange
import Derived.Lib.BitFns
import Derived.Shelf.Small.Bits
import Derived.Shelf.Strconv.Itoa0
import Derived.Shelf.Bits.Mul64
import Derived.Laws.Externs
import Derived.Shelf.Spec.BitsCarry
import Derived.Shelf.SlSortCmp.WholeK
import Derived.Shelf.Strings.Repeat
import Derived.Lib.AppendZerosOnto
import Derived.Lib.SliceRun
import Derived.Lib.Walk
import Derived.Laws.MakeOwn
import Derived.Laws.OwnMore
import Derived.IntWalk
import Derived.Lib.MakeNoZero
import Derived.Laws.CopyOwn
import Derived.Laws.Tables
import Derived.Defers
import Derived.Recover
import Derived.DeepKeys4
import Derived.WideKeyPair
import Derived.MapKept
import Derived.ChangeMaps
import Derived.Laws.Cover3
import Derived.Stop.BytesEq
set_option maxRecDepth 100000
set_option maxHeartbeats 8000000
namespace Go.Proofs.YtnndgpggjlhhpaaGreat
open Go.RowKit Go.ChangeShapes Go.WideShapes Go.Deep
theorem zsOpen {H : Type} {enc : TypeId × Value → H} {W : World} {base : Nat} {spare : Nat → Bool} {held : Bool} {fuel len cap : Nat} {a0 : Option Addr} {x : DataW H × List MemPlace}
    (hf : DataW.trod enc Tryz.prog W base spare held fuel 23 [.slice a0 len cap] = some x) :
    ∃ l : List Int, l.length = len ∧ ZI W a0 l ∧ (∀ v ∈ l, -9223372036854775808 ≤ v ∧ v ≤ 9223372036854775807) ∧ len ≤ maxLen := by
  rcases open_ints Tryz.underlying23 Tryz.underlying2 (by kernel_rfl) hf with ⟨hcs, _⟩ | ⟨x, l, c, zs, hcs, _, hl, hm, hz, _, hcell, hwz⟩
  · simp only [List.cons.injEq, Value.slice.injEq, and_true] at hcs
    obtain ⟨rfl, rfl, rfl⟩ := hcs
    exact ⟨[], rfl, fun i h => absurd h (Nat.not_lt_zero i), (fun v h => by cases h), by decide⟩
  · simp only [List.cons.injEq, Value.slice.injEq, and_true] at hcs
    obtain ⟨rfl, rfl, rfl⟩ := hcs
    have hz2 : len ≤ zs.length := by rw [hz]; split <;> omega
    refine ⟨zs.take len, by simp; omega, fun i hi => ?_, fun v hv => ?_, by omega⟩
    · have hil : i < len := by simp at hi; omega
      have hiz : i < zs.length := by omega
      obtain ⟨b, off, hp⟩ := plainAt (hcell 0 (by omega))
      obtain ⟨b', off', rfl⟩ : ∃ b off, x = ⟨b, off, none⟩ := by
        have e : x.add 0 = x := by simp [Addr.add]
        rw [e] at hp
        exact ⟨b, off, hp⟩
      refine ⟨b', off', rfl, ?_⟩
      have hc := hcell i hiz
      rw [plainAdd] at hc
      rw [hc]
      simp [List.getD, List.getElem?_eq_getElem hiz]
    · have := bounds_i64 (hwz v (List.mem_of_mem_take hv))
      omega
end Go.Proofs.YtnndgpggjlhhpaaGreat
