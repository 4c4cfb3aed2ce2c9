/- A slice of what is done that came in, opened. -/
import Derived.Test.YthfcfmnaiopogaaGreatOpenStruct
import Derived.Test.YthfcfmnaiopogaaGreatHrPlays
namespace Go.Proofs.YthfcfmnaiopogaaGreat
open Go.RowKit Go.ChangeShapes Go.WideShapes Go.Deep

set_option maxRecDepth 100000 in
theorem opsOpen {H : Type} {enc : TypeId × Value → H} {W : World} {base : Nat} {spare : Nat → Bool} {held : Bool} {fuel len cap : Nat} {a0 : Option Addr} {x : DataW H × List MemPlace}
    (hf : DataW.trod enc Tryz.prog W base spare held fuel 23 [.slice a0 len cap] = some x) :
    ∃ l : List OpT, l.length = len ∧ OpsI W a0 l := by
  rcases structsOpen (k := 5) Tryz.underlying23 Tryz.underlying34 (by kernel_rfl) (by kernel_rfl) hf with hcs | ⟨a, l, c, hcs, hl, hm, hrow⟩
  · simp only [List.cons.injEq, Value.slice.injEq, and_true] at hcs
    obtain ⟨rfl, rfl, rfl⟩ := hcs
    exact ⟨[], rfl, ⟨(fun t h => by cases h), fun i h => absurd h (Nat.not_lt_zero i)⟩⟩
  · simp only [List.cons.injEq, Value.slice.injEq, and_true] at hcs
    obtain ⟨rfl, rfl, rfl⟩ := hcs
    have each : ∀ i, i < len → ∃ y : OpT, W.cell? (a.add (i * 5 + 0)) = some (.int .u8 (y.1 : Nat)) ∧ W.cell? (a.add (i * 5 + 1)) = some (.bool y.2.1) ∧ W.cell? (a.add (i * 5 + 2)) = some (.int .i64 y.2.2.1) ∧ W.cell? (a.add (i * 5 + 3)) = some (.int .u64 (y.2.2.2.1 : Nat)) ∧ W.cell? (a.add (i * 5 + 4)) = some (.int .i64 y.2.2.2.2) ∧ y.1 < 256 ∧ (-9223372036854775808 ≤ y.2.2.1 ∧ y.2.2.1 ≤ 9223372036854775807) ∧ y.2.2.2.1 < 18446744073709551616 ∧ (-9223372036854775808 ≤ y.2.2.2.2 ∧ y.2.2.2.2 ≤ 9223372036854775807) := by
      intro i hi
      obtain ⟨v0, y0, n0, c0, t0⟩ := hrow i hi 0 _ rfl (by decide)
      obtain ⟨v1, y1, n1, c1, t1⟩ := hrow i hi 1 _ rfl (by decide)
      obtain ⟨v2, y2, n2, c2, t2⟩ := hrow i hi 2 _ rfl (by decide)
      obtain ⟨v3, y3, n3, c3, t3⟩ := hrow i hi 3 _ rfl (by decide)
      obtain ⟨v4, y4, n4, c4, t4⟩ := hrow i hi 4 _ rfl (by decide)
      obtain ⟨k0, e0, -, w0⟩ := DataW.trod_int Tryz.underlying5 t0
      obtain ⟨k1, e1, -⟩ := DataW.trod_bool Tryz.underlying4 t1
      obtain ⟨k2, e2, -, w2⟩ := DataW.trod_int Tryz.underlying2 t2
      obtain ⟨k3, e3, -, w3⟩ := DataW.trod_int Tryz.underlying22 t3
      obtain ⟨k4, e4, -, w4⟩ := DataW.trod_int Tryz.underlying2 t4
      simp only [List.cons.injEq, and_true] at e0 e1 e2 e3 e4
      subst e0 e1 e2 e3 e4
      have b0 := bounds_u8 w0
      have b2 := bounds_i64 w2
      have b3 := bounds_u64 w3
      have b4 := bounds_i64 w4
      exact ⟨(k0.toNat, k1, k2, k3.toNat, k4), by rw [c0]; simp only; rw [Int.toNat_of_nonneg (by omega)], c1, c2, by rw [c3]; simp only; rw [Int.toNat_of_nonneg (by omega)], c4, by simp only; omega, ⟨by simp only; omega, by simp only; omega⟩, by simp only; omega, ⟨by simp only; omega, by simp only; omega⟩⟩
    obtain ⟨it, hit⟩ := Go.Deep.choose_lt each
    refine ⟨(List.range len).map it, by simp, ⟨fun t ht => ?_, fun i hi => ?_⟩⟩
    · simp only [List.mem_map, List.mem_range] at ht
      obtain ⟨i, hi, rfl⟩ := ht
      obtain ⟨-, -, -, -, -, h4, h5, h6, h7⟩ := hit i hi
      exact ⟨h4, h5, h6, h7⟩
    · have hil : i < len := by simpa using hi
      obtain ⟨b, off, hp⟩ := plainAt (hit 0 (by omega)).1
      obtain ⟨b', off', rfl⟩ : ∃ b off, a = ⟨b, off, none⟩ := by
        have e : a.add (0 * 5 + 0) = a := by simp [Addr.add]
        rw [e] at hp
        exact ⟨b, off, hp⟩
      refine ⟨b', off', rfl, ?_⟩
      obtain ⟨h0, h1, h2, h3, h4, -, -, -, -⟩ := hit i hil
      rw [plainAdd] at h0 h1 h2 h3 h4
      simp only [List.getElem_map, List.getElem_range]
      rw [Nat.add_assoc, Nat.add_assoc, Nat.add_assoc, Nat.add_assoc]
      exact ⟨h0, h1, h2, h3, h4⟩
end Go.Proofs.YthfcfmnaiopogaaGreat
