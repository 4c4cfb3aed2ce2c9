/- DgOpenM -/
import Derived.Test.YtmieeoceckcnkaaPn1
import Derived.Test.YtmieeoceckcnkaaPn2
import Derived.Test.YtmieeoceckcnkaaPn4
import Derived.Test.YtmieeoceckcnkaaPn5
import Derived.Test.YtmieeoceckcnkaaPn6
import Derived.Test.YtmieeoceckcnkaaPn7
import Derived.Test.YtmieeoceckcnkaaPn8
import Derived.Test.YtmieeoceckcnkaaPn9
import Derived.Test.YtmieeoceckcnkaaPn10
import Derived.Test.YtmieeoceckcnkaaPn15
import Derived.Test.YtmieeoceckcnkaaPn16
import Derived.Test.YtmieeoceckcnkaaPn17
import Derived.Test.YtmieeoceckcnkaaPn18
import Derived.Deep.Fields
import Derived.Deep.Matrix
import Derived.OpenShut
import Derived.WalkKit
import Derived.WalkSpells
import Derived.WalkLawsBesides
import Derived.Deep.QuietTactic
import Derived.BigQuiet
import Derived.RegionTactic
import Derived.Deep.AppendLies
import Derived.Deep.RegionLaw
import Derived.Laws.ResultCell
import Derived.Laws.EntriesVeiled
import Derived.Lib.Hide
import Derived.Test.YtmieeoceckcnkaaRows
import Derived.Lib.AppendZerosOnto
import Derived.Lib.SliceRun
import Derived.Lib.Walk
import Derived.StillTailTactics
import Derived.Deep.RegionHeld3
import Derived.BigRegion
import Derived.Maps.AppendAt
import Derived.Laws.AppendOwnNone
import Derived.Laws.OwnMore
import Derived.Laws.Externs
import Derived.Shelf.Spec.BitsCarry
import Derived.Deep.CutBlock
import Derived.Deep.CutRange
import Derived.Deep.DeepCutAuto
import Derived.Lib.BitFns
import Derived.Shelf.Small.Bits
import Derived.Shelf.Strconv.Itoa0
import Derived.Shelf.Bits.Mul64
import Derived.Laws.BytesArg
import Derived.Lib.SlBytesConst
set_option maxRecDepth 100000
set_option maxHeartbeats 8000000
namespace Go.Proofs.Ytmieeoceckcnkaa
open Go.RowKit Go.ChangeShapes Go.WideShapes Go.Deep
theorem meansOpen {H : Type} {enc : TypeId × Value → H} {W : World} {base : Nat} {spare : Nat → Bool} {held : Bool} {fuel len cap : Nat} {a0 : Option Addr} {x : DataW H × List MemPlace}
    (hf : DataW.trod enc Try.prog W base spare held fuel 35 [.slice a0 len cap] = some x) :
    ∃ l : List Tm, l.length = len ∧ Sl W a0 len cap l ∧ (∀ t ∈ l, (-9223372036854775808 ≤ t.1 ∧ t.1 ≤ 9223372036854775807) ∧ t.2 < 18446744073709551616) := by
  rcases structsOpen (k := 2) Try.underlying35 Try.underlying44 (by kernel_rfl) (by kernel_rfl) hf with hcs | ⟨a, l, c, hcs, hl, hm, hrow⟩
  · simp only [List.cons.injEq, Value.slice.injEq, and_true] at hcs
    obtain ⟨rfl, rfl, rfl⟩ := hcs
    exact ⟨[], rfl, Sl.emp _, by simp⟩
  · simp only [List.cons.injEq, Value.slice.injEq, and_true] at hcs
    obtain ⟨rfl, rfl, rfl⟩ := hcs
    have each : ∀ i, i < len → ∃ y   : Tm, W.cell? (a.add (i * 2 + 0)) = some (.int .i64 y.1) ∧ W.cell? (a.add (i * 2 + 1)) = some (.int .u64 (y.2 : Nat)) ∧ (-9223372036854775808 ≤ y.1 ∧ y.1 ≤ 9223372036854775807) ∧ y.2 < 18446744073709551616 := by
      intro i hi
      obtain ⟨v0, y0, n0, c0, t0⟩ := hrow i hi 0 _ rfl (by decide)
      obtain ⟨v1, y1, n1, c1, t1⟩ := hrow i hi 1 _ rfl (by decide)
      obtain ⟨k0, e0, -, w0⟩ := DataW.trod_int Try.underlying2 t0
      obtain ⟨k1, e1, -, w1⟩ := DataW.trod_int Try.underlying28 t1
      simp only [List.cons.injEq, and_true] at e0 e1
      subst e0 e1
      have b0 := bounds_i64 w0
      have b1 := bounds_u64 w1
      exact ⟨(k0, k1.toNat), c0, by rw [c1]; simp only; rw [Int.toNat_of_nonneg (by omega)], ⟨by simp only; omega, by simp only; omega⟩, by simp only; omega⟩
    obtain ⟨it, hit⟩ := Go.Deep.choose_lt each
    refine ⟨(List.range len).map it, by simp, ⟨⟨by simp; omega, fun h0 => ?_⟩, by simp, hl, hm, fun h => by cases h⟩, fun t ht => ?_⟩
    · have hlen : 0 < len := by
        rcases Nat.eq_zero_or_pos len with h | h
        · subst h; simp at h0
        · exact h
      obtain ⟨b, off, hp⟩ := plainAt (hit 0 hlen).1
      obtain ⟨b', off', rfl⟩ : ∃ b off, a = ⟨b, off, none⟩ := by
        have e : a.add (0 * 2 + 0) = a := by simp [Addr.add]
        rw [e] at hp
        exact ⟨b, off, hp⟩
      refine ⟨b', off', rfl, fun i hi => ?_⟩
      have hil : i < len := by simpa using hi
      obtain ⟨h0, h1, -, -⟩ := hit i hil
      rw [plainAdd] at h0 h1
      simp only [List.getElem_map, List.getElem_range]
      exact ⟨h0, by rw [Nat.add_assoc]; exact h1⟩
    · simp only [List.mem_map, List.mem_range] at ht
      obtain ⟨i, hi, rfl⟩ := ht
      exact (hit i hi).2.2
end Go.Proofs.Ytmieeoceckcnkaa
