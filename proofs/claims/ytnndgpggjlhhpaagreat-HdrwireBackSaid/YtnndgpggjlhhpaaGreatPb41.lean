/- HwOpen -/
import Derived.Test.YtnndgpggjlhhpaaGreatPb1
import Derived.Test.YtnndgpggjlhhpaaGreatPb2
import Derived.Test.YtnndgpggjlhhpaaGreatPb3
import Derived.Test.YtnndgpggjlhhpaaGreatPb4
import Derived.Test.YtnndgpggjlhhpaaGreatPb5
import Derived.Test.YtnndgpggjlhhpaaGreatPb6
import Derived.Test.YtnndgpggjlhhpaaGreatPb7
import Derived.Test.YtnndgpggjlhhpaaGreatPb8
import Derived.Test.YtnndgpggjlhhpaaGreatPb9
import Derived.Test.YtnndgpggjlhhpaaGreatPb10
import Derived.Test.YtnndgpggjlhhpaaGreatPb11
import Derived.Test.YtnndgpggjlhhpaaGreatPb12
import Derived.Test.YtnndgpggjlhhpaaGreatPb13
import Derived.Test.YtnndgpggjlhhpaaGreatPb14
import Derived.Test.YtnndgpggjlhhpaaGreatPb15
import Derived.Test.YtnndgpggjlhhpaaGreatPb16
import Derived.Test.YtnndgpggjlhhpaaGreatPb17
import Derived.Test.YtnndgpggjlhhpaaGreatPb18
import Derived.Test.YtnndgpggjlhhpaaGreatPb19
import Derived.Test.YtnndgpggjlhhpaaGreatPb20
import Derived.Test.YtnndgpggjlhhpaaGreatPb21
import Derived.Test.YtnndgpggjlhhpaaGreatPb22
import Derived.Test.YtnndgpggjlhhpaaGreatPb23
import Derived.Test.YtnndgpggjlhhpaaGreatPb24
import Derived.Test.YtnndgpggjlhhpaaGreatPb25
import Derived.Test.YtnndgpggjlhhpaaGreatPb26
import Derived.Test.YtnndgpggjlhhpaaGreatPb27
import Derived.Test.YtnndgpggjlhhpaaGreatPb28
import Derived.Test.YtnndgpggjlhhpaaGreatPb29
import Derived.Test.YtnndgpggjlhhpaaGreatPb30
import Derived.Test.YtnndgpggjlhhpaaGreatPb31
import Derived.Test.YtnndgpggjlhhpaaGreatPb32
import Derived.Test.YtnndgpggjlhhpaaGreatPb33
import Derived.Test.YtnndgpggjlhhpaaGreatPb34
import Derived.Test.YtnndgpggjlhhpaaGreatPb35
import Derived.Test.YtnndgpggjlhhpaaGreatPb36
import Derived.Test.YtnndgpggjlhhpaaGreatPb37
import Derived.Test.YtnndgpggjlhhpaaGreatPb38
import Derived.Test.YtnndgpggjlhhpaaGreatPb39
import Derived.Test.YtnndgpggjlhhpaaGreatPb40
import Derived.Deep.Fields
import Derived.Deep.Matrix
import Derived.OpenShut
import Derived.WalkKit
import Derived.WalkSpells
import Derived.WalkLawsBesides
import Derived.Deep.QuietTactic
import Derived.BigQuiet
import Derived.RegionTactic
import Derived.Deep.AppendLies
import Derived.Deep.RegionLaw
import Derived.Laws.ResultCell
import Derived.Laws.EntriesVeiled
import Derived.Lib.Hide
import Derived.Test.YtnndgpggjlhhpaaGreatRows
import Derived.BigRegion
import Derived.RangeFuncNested
import Derived.RangeFuncBound
import Derived.RangeFuncCalls
import Derived.RangeFuncLeaves
import Derived.Shelf.Abstract
import Derived.Shelf.RegionOpen
import Derived.OwnWalkIn
import Derived.TacticsInMore
import Derived.LoopNIn
import Derived.LoopIn
import Derived.Sort.BigQuietIn
import Derived.Lib.Repeat
import Derived.StillTailTactics
import Derived.Laws.BitsAllLaws
import Derived.Laws.BytesArg
import Derived.Lib.SlBytesConst
import Derived.Maps.AppendAt
import Derived.Laws.AppendOwnNone
import Derived.Maps.RangeWalk
import Derived.Deep.RegionHeld3
import Derived.Deep.CutBlock
import Derived.Deep.DeepCutAuto
import Derived.Deep.CutRange
import Derived.Lib.BitFns
import Derived.Shelf.Small.Bits
import Derived.Shelf.Strconv.Itoa0
import Derived.Shelf.Bits.Mul64
import Derived.Laws.Externs
import Derived.Shelf.Spec.BitsCarry
import Derived.Shelf.SlSortCmp.WholeK
import Derived.Shelf.Strings.Repeat
import Derived.Lib.AppendZerosOnto
import Derived.Lib.SliceRun
import Derived.Lib.Walk
import Derived.Laws.MakeOwn
import Derived.Laws.OwnMore
import Derived.IntWalk
import Derived.Lib.MakeNoZero
import Derived.Laws.CopyOwn
import Derived.Laws.Tables
import Derived.Defers
import Derived.Recover
import Derived.DeepKeys4
import Derived.WideKeyPair
import Derived.MapKept
import Derived.ChangeMaps
import Derived.Laws.Cover3
import Derived.Stop.BytesEq
/- Slices of numbers that came in, opened. -/
namespace Go.Proofs.YtnndgpggjlhhpaaGreat
open Go.RowKit Go.ChangeShapes Go.WideShapes Go.Deep

set_option maxRecDepth 100000 in
theorem zsOpen {H : Type} {enc : TypeId × Value → H} {W : World} {base : Nat} {spare : Nat → Bool} {held : Bool} {fuel len cap : Nat} {a0 : Option Addr} {x : DataW H × List MemPlace}
    (hf : DataW.trod enc Tryz.prog W base spare held fuel 23 [.slice a0 len cap] = some x) :
    ∃ l : List Int, l.length = len ∧ ZI W a0 l ∧ (∀ v ∈ l, -9223372036854775808 ≤ v ∧ v ≤ 9223372036854775807) ∧ len ≤ maxLen := by
  rcases open_ints Tryz.underlying23 Tryz.underlying2 (by kernel_rfl) hf with ⟨hcs, _⟩ | ⟨x, l, c, zs, hcs, _, hl, hm, hz, _, hcell, hwz⟩
  · simp only [List.cons.injEq, Value.slice.injEq, and_true] at hcs
    obtain ⟨rfl, rfl, rfl⟩ := hcs
    exact ⟨[], rfl, fun i h => absurd h (Nat.not_lt_zero i), (fun v h => by cases h), by decide⟩
  · simp only [List.cons.injEq, Value.slice.injEq, and_true] at hcs
    obtain ⟨rfl, rfl, rfl⟩ := hcs
    have hz2 : len ≤ zs.length := by rw [hz]; split <;> omega
    refine ⟨zs.take len, by simp; omega, fun i hi => ?_, fun v hv => ?_, by omega⟩
    · have hil : i < len := by simp at hi; omega
      have hiz : i < zs.length := by omega
      obtain ⟨b, off, hp⟩ := plainAt (hcell 0 (by omega))
      obtain ⟨b', off', rfl⟩ : ∃ b off, x = ⟨b, off, none⟩ := by
        have e : x.add 0 = x := by simp [Addr.add]
        rw [e] at hp
        exact ⟨b, off, hp⟩
      refine ⟨b', off', rfl, ?_⟩
      have hc := hcell i hiz
      rw [plainAdd] at hc
      rw [hc]
      simp [List.getD, List.getElem?_eq_getElem hiz]
    · have := bounds_i64 (hwz v (List.mem_of_mem_take hv))
      omega
set_option maxRecDepth 100000 in
theorem wsOpen {H : Type} {enc : TypeId × Value → H} {W : World} {base : Nat} {held : Bool} {fuel len cap : Nat} {a0 : Option Addr} {x : DataW H × List MemPlace}
    (hf : DataW.trod enc Tryz.prog W base (fun _ => true) held fuel 24 [.slice a0 len cap] = some x) :
    ∃ l : List Nat, l.length = len ∧ SlI W .u32 a0 l ∧ ∀ v ∈ l, v < 4294967296 := by
  obtain ⟨zs, hrow⟩ : ∃ zs : List Int, (a0 = none ∧ len = 0 ∧ cap = 0 ∧ zs = []) ∨ ∃ x, a0 = some x ∧ len ≤ cap ∧ cap ≤ maxLen ∧ zs.length = cap ∧ (∀ i, i < zs.length → W.cell? (x.add i) = some (.int .u32 (zs.getD i 0))) ∧ ∀ n ∈ zs, (Lit.int .u32 n).wf = true := by
    rcases open_ints Tryz.underlying24 Tryz.underlying54 (by kernel_rfl) hf with ⟨hcs, _⟩ | ⟨x, l, c, zs, hcs, _, hl, hm, hz, _, hcell, hwz⟩
    · simp only [List.cons.injEq, Value.slice.injEq, and_true] at hcs
      obtain ⟨rfl, rfl, rfl⟩ := hcs
      exact ⟨[], .inl ⟨rfl, rfl, rfl, rfl⟩⟩
    · simp only [List.cons.injEq, Value.slice.injEq, and_true] at hcs
      obtain ⟨rfl, rfl, rfl⟩ := hcs
      exact ⟨zs, .inr ⟨_, rfl, hl, hm, by simpa using hz, hcell, hwz⟩⟩
  obtain ⟨l, h1, h2, h3, -⟩ := rowOpen (B := 4294967296) (fun n hn => by have := bounds_u32 hn; omega) hrow
  exact ⟨l, h1, h2, h3⟩
end Go.Proofs.YtnndgpggjlhhpaaGreat
