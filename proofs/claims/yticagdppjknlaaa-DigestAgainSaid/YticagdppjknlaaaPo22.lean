/- DgOpen -/
import Derived.Test.YticagdppjknlaaaPo1
import Derived.Test.YticagdppjknlaaaPo2
import Derived.Test.YticagdppjknlaaaPo3
import Derived.Test.YticagdppjknlaaaPo4
import Derived.Test.YticagdppjknlaaaPo5
import Derived.Test.YticagdppjknlaaaPo6
import Derived.Test.YticagdppjknlaaaPo7
import Derived.Test.YticagdppjknlaaaPo8
import Derived.Test.YticagdppjknlaaaPo9
import Derived.Test.YticagdppjknlaaaPo10
import Derived.Test.YticagdppjknlaaaPo11
import Derived.Test.YticagdppjknlaaaPo12
import Derived.Test.YticagdppjknlaaaPo13
import Derived.Test.YticagdppjknlaaaPo14
import Derived.Test.YticagdppjknlaaaPo15
import Derived.Test.YticagdppjknlaaaPo16
import Derived.Test.YticagdppjknlaaaPo17
import Derived.Test.YticagdppjknlaaaPo18
import Derived.Test.YticagdppjknlaaaPo19
import Derived.Test.YticagdppjknlaaaPo20
import Derived.Test.YticagdppjknlaaaPo21
import Derived.Deep.Fields
import Derived.Deep.Matrix
import Derived.OpenShut
import Derived.WalkKit
import Derived.WalkSpells
import Derived.WalkLawsBesides
import Derived.Deep.QuietTactic
import Derived.BigQuiet
import Derived.RegionTactic
import Derived.Deep.AppendLies
import Derived.Deep.RegionLaw
import Derived.Laws.ResultCell
import Derived.Laws.EntriesVeiled
import Derived.Lib.Hide
import Derived.Test.YticagdppjknlaaaRows
import Derived.BigRegion
import Derived.Deep.RegionHeld3
import Derived.StillTailTactics
import Derived.Maps.AppendAt
import Derived.Laws.AppendOwnNone
import Derived.Laws.OwnMore
import Derived.Lib.AppendZerosOnto
import Derived.Lib.SliceRun
import Derived.Lib.Walk
import Derived.Laws.Externs
import Derived.Shelf.Spec.BitsCarry
import Derived.Deep.CutBlock
import Derived.Deep.CutRange
import Derived.Deep.DeepCutAuto
import Derived.Lib.BitFns
import Derived.Shelf.Small.Bits
import Derived.Shelf.Strconv.Itoa0
import Derived.Shelf.Bits.Mul64
import Derived.Laws.BytesArg
import Derived.Lib.SlBytesConst
set_option maxRecDepth 100000
set_option maxHeartbeats 8000000
namespace Go.Proofs.Yticagdppjknlaaa
open Go.RowKit Go.ChangeShapes Go.WideShapes Go.Deep
theorem zsOpen {H : Type} {enc : TypeId × Value → H} {W : World} {base : Nat} {spare : Nat → Bool} {held : Bool} {fuel len cap : Nat} {a0 : Option Addr} {x : DataW H × List MemPlace}
    (hf : DataW.trod enc Try.prog W base spare held fuel 44 [.slice a0 len cap] = some x) :
    ∃ l : List Int, l.length = len ∧ ZI W a0 l ∧ (∀ v ∈ l, -9223372036854775808 ≤ v ∧ v ≤ 9223372036854775807) ∧ len ≤ maxLen := by
  rcases open_ints Try.underlying44 Try.underlying2 (by kernel_rfl) hf with ⟨hcs, _⟩ | ⟨x, l, c, zs, hcs, _, hl, hm, hz, _, hcell, hwz⟩
  · simp only [List.cons.injEq, Value.slice.injEq, and_true] at hcs
    obtain ⟨rfl, rfl, rfl⟩ := hcs
    exact ⟨[], rfl, fun i h => absurd h (Nat.not_lt_zero i), (fun v h => by cases h), by decide⟩
  · simp only [List.cons.injEq, Value.slice.injEq, and_true] at hcs
    obtain ⟨rfl, rfl, rfl⟩ := hcs
    have hz2 : len ≤ zs.length := by rw [hz]; split <;> omega
    refine ⟨zs.take len, by simp; omega, fun i hi => ?_, fun v hv => ?_, by omega⟩
    · have hil : i < len := by simp at hi; omega
      have hiz : i < zs.length := by omega
      obtain ⟨b, off, hp⟩ := plainAt (hcell 0 (by omega))
      obtain ⟨b', off', rfl⟩ : ∃ b off, x = ⟨b, off, none⟩ := by
        have e : x.add 0 = x := by simp [Addr.add]
        rw [e] at hp
        exact ⟨b, off, hp⟩
      refine ⟨b', off', rfl, ?_⟩
      have hc := hcell i hiz
      rw [plainAdd] at hc
      rw [hc]
      simp [List.getD, List.getElem?_eq_getElem hiz]
    · have := bounds_i64 (hwz v (List.mem_of_mem_take hv))
      omega
theorem hsOpen {H : Type} {enc : TypeId × Value → H} {W : World} {base : Nat} {held : Bool} {fuel len cap : Nat} {a0 : Option Addr} {x : DataW H × List MemPlace}
    (hf : DataW.trod enc Try.prog W base (fun _ => true) held fuel 45 [.slice a0 len cap] = some x) :
    ∃ l : List Nat, l.length = len ∧ SlI W .u16 a0 l ∧ ∀ v ∈ l, v < 65536 := by
  obtain ⟨zs, hrow⟩ : ∃ zs : List Int, (a0 = none ∧ len = 0 ∧ cap = 0 ∧ zs = []) ∨ ∃ x, a0 = some x ∧ len ≤ cap ∧ cap ≤ maxLen ∧ zs.length = cap ∧ (∀ i, i < zs.length → W.cell? (x.add i) = some (.int .u16 (zs.getD i 0))) ∧ ∀ n ∈ zs, (Lit.int .u16 n).wf = true := by
    rcases open_ints Try.underlying45 Try.underlying22 (by kernel_rfl) hf with ⟨hcs, _⟩ | ⟨x, l, c, zs, hcs, _, hl, hm, hz, _, hcell, hwz⟩
    · simp only [List.cons.injEq, Value.slice.injEq, and_true] at hcs
      obtain ⟨rfl, rfl, rfl⟩ := hcs
      exact ⟨[], .inl ⟨rfl, rfl, rfl, rfl⟩⟩
    · simp only [List.cons.injEq, Value.slice.injEq, and_true] at hcs
      obtain ⟨rfl, rfl, rfl⟩ := hcs
      exact ⟨zs, .inr ⟨_, rfl, hl, hm, by simpa using hz, hcell, hwz⟩⟩
  obtain ⟨l, h1, h2, h3, -⟩ := rowOpen (B := 65536) (fun n hn => by have := bounds_u16 hn; omega) hrow
  exact ⟨l, h1, h2, h3⟩
end Go.Proofs.Yticagdppjknlaaa
