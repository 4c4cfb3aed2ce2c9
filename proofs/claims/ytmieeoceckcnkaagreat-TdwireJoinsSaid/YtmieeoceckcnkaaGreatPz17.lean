/- DgOpen, DgOpenOps -/
import Derived.Test.YtmieeoceckcnkaaGreatPz1
import Derived.Test.YtmieeoceckcnkaaGreatPz2
import Derived.Test.YtmieeoceckcnkaaGreatPz3
import Derived.Test.YtmieeoceckcnkaaGreatPz4
import Derived.Test.YtmieeoceckcnkaaGreatPz5
import Derived.Test.YtmieeoceckcnkaaGreatPz6
import Derived.Test.YtmieeoceckcnkaaGreatPz7
import Derived.Test.YtmieeoceckcnkaaGreatPz8
import Derived.Test.YtmieeoceckcnkaaGreatPz9
import Derived.Test.YtmieeoceckcnkaaGreatPz10
import Derived.Test.YtmieeoceckcnkaaGreatPz11
import Derived.Test.YtmieeoceckcnkaaGreatPz12
import Derived.Test.YtmieeoceckcnkaaGreatPz13
import Derived.Test.YtmieeoceckcnkaaGreatPz14
import Derived.Test.YtmieeoceckcnkaaGreatPz15
import Derived.Test.YtmieeoceckcnkaaGreatPz16
import Derived.Deep.Fields
import Derived.Deep.Matrix
import Derived.OpenShut
import Derived.WalkKit
import Derived.WalkSpells
import Derived.WalkLawsBesides
import Derived.Deep.QuietTactic
import Derived.BigQuiet
import Derived.RegionTactic
import Derived.Deep.AppendLies
import Derived.Deep.RegionLaw
import Derived.Laws.ResultCell
import Derived.Laws.EntriesVeiled
import Derived.Lib.Hide
import Derived.Test.YtmieeoceckcnkaaGreatRows
import Derived.Lib.AppendZerosOnto
import Derived.Lib.SliceRun
import Derived.Lib.Walk
import Derived.StillTailTactics
import Derived.Deep.RegionHeld3
import Derived.BigRegion
import Derived.Maps.AppendAt
import Derived.Laws.AppendOwnNone
import Derived.Laws.OwnMore
import Derived.Laws.Externs
import Derived.Shelf.Spec.BitsCarry
import Derived.Deep.CutBlock
import Derived.Deep.CutRange
import Derived.Deep.DeepCutAuto
import Derived.Lib.BitFns
import Derived.Shelf.Small.Bits
import Derived.Shelf.Strconv.Itoa0
import Derived.Shelf.Bits.Mul64
import Derived.Laws.BytesArg
import Derived.Lib.SlBytesConst
set_option maxRecDepth 100000
set_option maxHeartbeats 8000000
namespace Go.Proofs.YtmieeoceckcnkaaGreat
open Go.RowKit Go.ChangeShapes Go.WideShapes Go.Deep
theorem zsOpen {H : Type} {enc : TypeId × Value → H} {W : World} {base : Nat} {spare : Nat → Bool} {held : Bool} {fuel len cap : Nat} {a0 : Option Addr} {x : DataW H × List MemPlace}
    (hf : DataW.trod enc Tryz.prog W base spare held fuel 23 [.slice a0 len cap] = some x) :
    ∃ l : List Int, l.length = len ∧ ZI W a0 l ∧ (∀ v ∈ l, -9223372036854775808 ≤ v ∧ v ≤ 9223372036854775807) ∧ len ≤ maxLen := by
  rcases open_ints Tryz.underlying23 Tryz.underlying2 (by kernel_rfl) hf with ⟨hcs, _⟩ | ⟨x, l, c, zs, hcs, _, hl, hm, hz, _, hcell, hwz⟩
  · simp only [List.cons.injEq, Value.slice.injEq, and_true] at hcs
    obtain ⟨rfl, rfl, rfl⟩ := hcs
    exact ⟨[], rfl, fun i h => absurd h (Nat.not_lt_zero i), (fun v h => by cases h), by decide⟩
  · simp only [List.cons.injEq, Value.slice.injEq, and_true] at hcs
    obtain ⟨rfl, rfl, rfl⟩ := hcs
    have hz2 : len ≤ zs.length := by rw [hz]; split <;> omega
    refine ⟨zs.take len, by simp; omega, fun i hi => ?_, fun v hv => ?_, by omega⟩
    · have hil : i < len := by simp at hi; omega
      have hiz : i < zs.length := by omega
      obtain ⟨b, off, hp⟩ := plainAt (hcell 0 (by omega))
      obtain ⟨b', off', rfl⟩ : ∃ b off, x = ⟨b, off, none⟩ := by
        have e : x.add 0 = x := by simp [Addr.add]
        rw [e] at hp
        exact ⟨b, off, hp⟩
      refine ⟨b', off', rfl, ?_⟩
      have hc := hcell i hiz
      rw [plainAdd] at hc
      rw [hc]
      simp [List.getD, List.getElem?_eq_getElem hiz]
    · have := bounds_i64 (hwz v (List.mem_of_mem_take hv))
      omega
theorem hsOpen {H : Type} {enc : TypeId × Value → H} {W : World} {base : Nat} {held : Bool} {fuel len cap : Nat} {a0 : Option Addr} {x : DataW H × List MemPlace}
    (hf : DataW.trod enc Tryz.prog W base (fun _ => true) held fuel 24 [.slice a0 len cap] = some x) :
    ∃ l : List Nat, l.length = len ∧ SlI W .u16 a0 l ∧ ∀ v ∈ l, v < 65536 := by
  obtain ⟨zs, hrow⟩ : ∃ zs : List Int, (a0 = none ∧ len = 0 ∧ cap = 0 ∧ zs = []) ∨ ∃ x, a0 = some x ∧ len ≤ cap ∧ cap ≤ maxLen ∧ zs.length = cap ∧ (∀ i, i < zs.length → W.cell? (x.add i) = some (.int .u16 (zs.getD i 0))) ∧ ∀ n ∈ zs, (Lit.int .u16 n).wf = true := by
    rcases open_ints Tryz.underlying24 Tryz.underlying22 (by kernel_rfl) hf with ⟨hcs, _⟩ | ⟨x, l, c, zs, hcs, _, hl, hm, hz, _, hcell, hwz⟩
    · simp only [List.cons.injEq, Value.slice.injEq, and_true] at hcs
      obtain ⟨rfl, rfl, rfl⟩ := hcs
      exact ⟨[], .inl ⟨rfl, rfl, rfl, rfl⟩⟩
    · simp only [List.cons.injEq, Value.slice.injEq, and_true] at hcs
      obtain ⟨rfl, rfl, rfl⟩ := hcs
      exact ⟨zs, .inr ⟨_, rfl, hl, hm, by simpa using hz, hcell, hwz⟩⟩
  obtain ⟨l, h1, h2, h3, -⟩ := rowOpen (B := 65536) (fun n hn => by have := bounds_u16 hn; omega) hrow
  exact ⟨l, h1, h2, h3⟩
end Go.Proofs.YtmieeoceckcnkaaGreat

namespace Go.Proofs.YtmieeoceckcnkaaGreat
open Go.RowKit Go.ChangeShapes Go.WideShapes Go.Deep
abbrev OpT := Nat × Bool × Int × Nat
structure OpsI (w : World) (p : Option Addr) (l : List OpT) : Prop where
  ok : ∀ t ∈ l, t.1 < 256 ∧ (-9223372036854775808 ≤ t.2.2.1 ∧ t.2.2.1 ≤ 9223372036854775807) ∧ t.2.2.2 < 18446744073709551616
  at' : ∀ i, (h : i < l.length) → ∃ b o, p = some ⟨b, o, none⟩ ∧ w.cell? ⟨b, o + i * 4, none⟩ = some (.int .u8 (l[i].1 : Nat)) ∧ w.cell? ⟨b, o + i * 4 + 1, none⟩ = some (.bool l[i].2.1) ∧ w.cell? ⟨b, o + i * 4 + 2, none⟩ = some (.int .i64 l[i].2.2.1) ∧ w.cell? ⟨b, o + i * 4 + 3, none⟩ = some (.int .u64 (l[i].2.2.2 : Nat))
theorem OpsI.fr0 {w w' : World} {p : Option Addr} {l : List OpT} (h : OpsI w p l) (f : Fr S0 w w') : OpsI w' p l := ⟨h.ok, fun i hi => let ⟨b, o, e, h0, h1, h2, h3⟩ := h.at' i hi; ⟨b, o, e, f.cell h0 (fun h => h), f.cell h1 (fun h => h), f.cell h2 (fun h => h), f.cell h3 (fun h => h)⟩⟩
theorem opsOpen {H : Type} {enc : TypeId × Value → H} {W : World} {base : Nat} {spare : Nat → Bool} {held : Bool} {fuel len cap : Nat} {a0 : Option Addr} {x : DataW H × List MemPlace}
    (hf : DataW.trod enc Tryz.prog W base spare held fuel 46 [.slice a0 len cap] = some x) :
    ∃ l : List OpT, l.length = len ∧ OpsI W a0 l := by
  rcases structsOpen (k := 4) Tryz.underlying46 Tryz.underlying51 (by kernel_rfl) (by kernel_rfl) hf with hcs | ⟨a, l, c, hcs, hl, hm, hrow⟩
  · simp only [List.cons.injEq, Value.slice.injEq, and_true] at hcs
    obtain ⟨rfl, rfl, rfl⟩ := hcs
    exact ⟨[], rfl, ⟨(fun t h => by cases h), fun i h => absurd h (Nat.not_lt_zero i)⟩⟩
  · simp only [List.cons.injEq, Value.slice.injEq, and_true] at hcs
    obtain ⟨rfl, rfl, rfl⟩ := hcs
    have each : ∀ i, i < len → ∃ y : OpT, W.cell? (a.add (i * 4 + 0)) = some (.int .u8 (y.1 : Nat)) ∧ W.cell? (a.add (i * 4 + 1)) = some (.bool y.2.1) ∧ W.cell? (a.add (i * 4 + 2)) = some (.int .i64 y.2.2.1) ∧ W.cell? (a.add (i * 4 + 3)) = some (.int .u64 (y.2.2.2 : Nat)) ∧ y.1 < 256 ∧ (-9223372036854775808 ≤ y.2.2.1 ∧ y.2.2.1 ≤ 9223372036854775807) ∧ y.2.2.2 < 18446744073709551616 := by
      intro i hi
      obtain ⟨v0, y0, n0, c0, t0⟩ := hrow i hi 0 _ rfl (by decide)
      obtain ⟨v1, y1, n1, c1, t1⟩ := hrow i hi 1 _ rfl (by decide)
      obtain ⟨v2, y2, n2, c2, t2⟩ := hrow i hi 2 _ rfl (by decide)
      obtain ⟨v3, y3, n3, c3, t3⟩ := hrow i hi 3 _ rfl (by decide)
      obtain ⟨k0, e0, -, w0⟩ := DataW.trod_int Tryz.underlying5 t0
      obtain ⟨k1, e1, -⟩ := DataW.trod_bool Tryz.underlying4 t1
      obtain ⟨k2, e2, -, w2⟩ := DataW.trod_int Tryz.underlying2 t2
      obtain ⟨k3, e3, -, w3⟩ := DataW.trod_int Tryz.underlying36 t3
      simp only [List.cons.injEq, and_true] at e0 e1 e2 e3
      subst e0 e1 e2 e3
      have b0 := bounds_u8 w0
      have b2 := bounds_i64 w2
      have b3 := bounds_u64 w3
      exact ⟨(k0.toNat, k1, k2, k3.toNat), by rw [c0]; simp only; rw [Int.toNat_of_nonneg (by omega)], c1, c2, by rw [c3]; simp only; rw [Int.toNat_of_nonneg (by omega)], by simp only; omega, ⟨by simp only; omega, by simp only; omega⟩, by simp only; omega⟩
    obtain ⟨it, hit⟩ := Go.Deep.choose_lt each
    refine ⟨(List.range len).map it, by simp, ⟨fun t ht => ?_, fun i hi => ?_⟩⟩
    · simp only [List.mem_map, List.mem_range] at ht
      obtain ⟨i, hi, rfl⟩ := ht
      obtain ⟨-, -, -, -, h4, h5, h6⟩ := hit i hi
      exact ⟨h4, h5, h6⟩
    · have hil : i < len := by simpa using hi
      obtain ⟨b, off, hp⟩ := plainAt (hit 0 (by omega)).1
      obtain ⟨b', off', rfl⟩ : ∃ b off, a = ⟨b, off, none⟩ := by
        have e : a.add (0 * 4 + 0) = a := by simp [Addr.add]
        rw [e] at hp
        exact ⟨b, off, hp⟩
      refine ⟨b', off', rfl, ?_⟩
      obtain ⟨h0, h1, h2, h3, -, -, -⟩ := hit i hil
      rw [plainAdd] at h0 h1 h2 h3
      simp only [List.getElem_map, List.getElem_range]
      rw [Nat.add_assoc, Nat.add_assoc, Nat.add_assoc]
      exact ⟨h0, h1, h2, h3⟩
end Go.Proofs.YtmieeoceckcnkaaGreat
