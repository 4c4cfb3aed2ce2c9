/- DwOpen -/
import Derived.Test.YtaemgflhgdlmiaaGreatPw1
import Derived.Test.YtaemgflhgdlmiaaGreatPw2
import Derived.Test.YtaemgflhgdlmiaaGreatPw3
import Derived.Test.YtaemgflhgdlmiaaGreatPw4
import Derived.Test.YtaemgflhgdlmiaaGreatPw5
import Derived.Test.YtaemgflhgdlmiaaGreatPw6
import Derived.Test.YtaemgflhgdlmiaaGreatPw7
import Derived.Test.YtaemgflhgdlmiaaGreatPw8
import Derived.Test.YtaemgflhgdlmiaaGreatPw9
import Derived.Test.YtaemgflhgdlmiaaGreatPw10
import Derived.Test.YtaemgflhgdlmiaaGreatPw11
import Derived.Test.YtaemgflhgdlmiaaGreatPw12
import Derived.Test.YtaemgflhgdlmiaaGreatPw13
import Derived.Test.YtaemgflhgdlmiaaGreatPw14
import Derived.Test.YtaemgflhgdlmiaaGreatPw15
import Derived.Test.YtaemgflhgdlmiaaGreatPw16
import Derived.Test.YtaemgflhgdlmiaaGreatPw17
import Derived.Test.YtaemgflhgdlmiaaGreatPw18
import Derived.Test.YtaemgflhgdlmiaaGreatPw19
import Derived.Test.YtaemgflhgdlmiaaGreatPw20
import Derived.Test.YtaemgflhgdlmiaaGreatPw21
import Derived.Test.YtaemgflhgdlmiaaGreatPw22
import Derived.Test.YtaemgflhgdlmiaaGreatPw23
import Derived.Test.YtaemgflhgdlmiaaGreatPw24
import Derived.Test.YtaemgflhgdlmiaaGreatPw25
import Derived.Test.YtaemgflhgdlmiaaGreatPw26
import Derived.Test.YtaemgflhgdlmiaaGreatPw27
import Derived.Test.YtaemgflhgdlmiaaGreatPw28
import Derived.Test.YtaemgflhgdlmiaaGreatPw29
import Derived.Test.YtaemgflhgdlmiaaGreatPw30
import Derived.Test.YtaemgflhgdlmiaaGreatPw31
import Derived.Test.YtaemgflhgdlmiaaGreatPw32
import Derived.Test.YtaemgflhgdlmiaaGreatPw33
import Derived.Test.YtaemgflhgdlmiaaGreatPw34
import Derived.Test.YtaemgflhgdlmiaaGreatPw35
import Derived.Test.YtaemgflhgdlmiaaGreatPw36
import Derived.Test.YtaemgflhgdlmiaaGreatPw37
import Derived.Deep.Fields
import Derived.Deep.Matrix
import Derived.OpenShut
import Derived.WalkKit
import Derived.WalkSpells
import Derived.WalkLawsBesides
import Derived.Deep.QuietTactic
import Derived.BigQuiet
import Derived.RegionTactic
import Derived.Deep.AppendLies
import Derived.Deep.RegionLaw
import Derived.Laws.ResultCell
import Derived.Laws.EntriesVeiled
import Derived.Lib.Hide
import Derived.Test.YtaemgflhgdlmiaaGreatRows
import Derived.Defers
import Derived.Recover
import Derived.Deep.RegionHeld2
import Derived.StillTailTactics
import Derived.Laws.BitsAllLaws
import Derived.Laws.BytesArg
import Derived.Lib.SlBytesConst
import Derived.Maps.AppendAt
import Derived.Laws.AppendOwnNone
import Derived.Deep.RegionHeld3
import Derived.Lib.SliceRun
import Derived.BigRegion
import Derived.Laws.Externs
import Derived.Shelf.Spec.BitsCarry
import Derived.Deep.CutBlock
import Derived.Deep.CutRange
import Derived.Deep.DeepCutAuto
import Derived.Lib.BitFns
import Derived.Shelf.Small.Bits
import Derived.Shelf.Strconv.Itoa0
import Derived.Shelf.Bits.Mul64
import Derived.Lib.AppendZeros
import Derived.Laws.CopyOwn
import Derived.Lib.Overlaps
import Derived.Lib.AppendZerosOnto
import Derived.Laws.OwnMore
import Derived.Shelf.SlSortCmp.WholeK
set_option maxRecDepth 100000
set_option maxHeartbeats 8000000
namespace Go.Proofs.YtaemgflhgdlmiaaGreat
open Go.RowKit Go.ChangeShapes Go.WideShapes Go.Deep
theorem zsOpen {H : Type} {enc : TypeId × Value → H} {W : World} {base : Nat} {spare : Nat → Bool} {held : Bool} {fuel len cap : Nat} {a0 : Option Addr} {x : DataW H × List MemPlace}
    (hf : DataW.trod enc Tryz.prog W base spare held fuel 23 [.slice a0 len cap] = some x) :
    ∃ l : List Int, l.length = len ∧ ZI W a0 l ∧ (∀ v ∈ l, -9223372036854775808 ≤ v ∧ v ≤ 9223372036854775807) ∧ len ≤ maxLen := by
  rcases open_ints Tryz.underlying23 Tryz.underlying2 (by kernel_rfl) hf with ⟨hcs, _⟩ | ⟨x, l, c, zs, hcs, _, hl, hm, hz, _, hcell, hwz⟩
  · simp only [List.cons.injEq, Value.slice.injEq, and_true] at hcs
    obtain ⟨rfl, rfl, rfl⟩ := hcs
    exact ⟨[], rfl, fun i h => absurd h (Nat.not_lt_zero i), (fun v h => by cases h), by decide⟩
  · simp only [List.cons.injEq, Value.slice.injEq, and_true] at hcs
    obtain ⟨rfl, rfl, rfl⟩ := hcs
    have hz2 : len ≤ zs.length := by rw [hz]; split <;> omega
    refine ⟨zs.take len, by simp; omega, fun i hi => ?_, fun v hv => ?_, by omega⟩
    · have hil : i < len := by simp at hi; omega
      have hiz : i < zs.length := by omega
      obtain ⟨b, off, hp⟩ := plainAt (hcell 0 (by omega))
      obtain ⟨b', off', rfl⟩ : ∃ b off, x = ⟨b, off, none⟩ := by
        have e : x.add 0 = x := by simp [Addr.add]
        rw [e] at hp
        exact ⟨b, off, hp⟩
      refine ⟨b', off', rfl, ?_⟩
      have hc := hcell i hiz
      rw [plainAdd] at hc
      rw [hc]
      simp [List.getD, List.getElem?_eq_getElem hiz]
    · have := bounds_i64 (hwz v (List.mem_of_mem_take hv))
      omega
theorem hsOpen {H : Type} {enc : TypeId × Value → H} {W : World} {base : Nat} {held : Bool} {fuel len cap : Nat} {a0 : Option Addr} {x : DataW H × List MemPlace}
    (hf : DataW.trod enc Tryz.prog W base (fun _ => true) held fuel 24 [.slice a0 len cap] = some x) :
    ∃ l : List Nat, l.length = len ∧ SlI W .u16 a0 l ∧ ∀ v ∈ l, v < 65536 := by
  obtain ⟨zs, hrow⟩ : ∃ zs : List Int, (a0 = none ∧ len = 0 ∧ cap = 0 ∧ zs = []) ∨ ∃ x, a0 = some x ∧ len ≤ cap ∧ cap ≤ maxLen ∧ zs.length = cap ∧ (∀ i, i < zs.length → W.cell? (x.add i) = some (.int .u16 (zs.getD i 0))) ∧ ∀ n ∈ zs, (Lit.int .u16 n).wf = true := by
    rcases open_ints Tryz.underlying24 Tryz.underlying22 (by kernel_rfl) hf with ⟨hcs, _⟩ | ⟨x, l, c, zs, hcs, _, hl, hm, hz, _, hcell, hwz⟩
    · simp only [List.cons.injEq, Value.slice.injEq, and_true] at hcs
      obtain ⟨rfl, rfl, rfl⟩ := hcs
      exact ⟨[], .inl ⟨rfl, rfl, rfl, rfl⟩⟩
    · simp only [List.cons.injEq, Value.slice.injEq, and_true] at hcs
      obtain ⟨rfl, rfl, rfl⟩ := hcs
      exact ⟨zs, .inr ⟨_, rfl, hl, hm, by simpa using hz, hcell, hwz⟩⟩
  obtain ⟨l, h1, h2, h3, -⟩ := rowOpen (B := 65536) (fun n hn => by have := bounds_u16 hn; omega) hrow
  exact ⟨l, h1, h2, h3⟩
end Go.Proofs.YtaemgflhgdlmiaaGreat
