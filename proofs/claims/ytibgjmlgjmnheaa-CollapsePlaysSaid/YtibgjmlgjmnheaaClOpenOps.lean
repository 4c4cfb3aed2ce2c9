/- A slice of what is done that came in, opened. -/
import Derived.Test.YtibgjmlgjmnheaaOpenStruct
import Derived.Test.YtibgjmlgjmnheaaClPlay
namespace Go.Proofs.Ytibgjmlgjmnheaa
open Go.RowKit Go.ChangeShapes Go.WideShapes Go.Deep

set_option maxRecDepth 100000 in
theorem opsOpen {H : Type} {enc : TypeId × Value → H} {W : World} {base : Nat} {spare : Nat → Bool} {held : Bool} {fuel len cap : Nat} {a0 : Option Addr} {x : DataW H × List MemPlace}
    (hf : DataW.trod enc Try.prog W base spare held fuel 23 [.slice a0 len cap] = some x) :
    ∃ l : List It, l.length = len ∧ OpI W a0 l ∧ ∀ t ∈ l, t.1 < 256 ∧ (-9223372036854775808 ≤ t.2.2.1 ∧ t.2.2.1 ≤ 9223372036854775807) ∧ t.2.2.2 < 18446744073709551616 := by
  rcases structsOpen (k := 4) Try.underlying23 Try.underlying34 (by kernel_rfl) (by kernel_rfl) hf with hcs | ⟨a, l, c, hcs, hl, hm, hrow⟩
  · simp only [List.cons.injEq, Value.slice.injEq, and_true] at hcs
    obtain ⟨rfl, rfl, rfl⟩ := hcs
    exact ⟨[], rfl, ⟨by decide, fun h => absurd rfl h⟩, by simp⟩
  · simp only [List.cons.injEq, Value.slice.injEq, and_true] at hcs
    obtain ⟨rfl, rfl, rfl⟩ := hcs
    have each : ∀ i, i < len → ∃ y : It, W.cell? (a.add (i * 4 + 0)) = some (.int .u8 (y.1 : Nat)) ∧ W.cell? (a.add (i * 4 + 1)) = some (.bool y.2.1) ∧ W.cell? (a.add (i * 4 + 2)) = some (.int .i64 y.2.2.1) ∧ W.cell? (a.add (i * 4 + 3)) = some (.int .u64 (y.2.2.2 : Nat)) ∧ y.1 < 256 ∧ (-9223372036854775808 ≤ y.2.2.1 ∧ y.2.2.1 ≤ 9223372036854775807) ∧ y.2.2.2 < 18446744073709551616 := by
      intro i hi
      obtain ⟨v0, y0, n0, c0, t0⟩ := hrow i hi 0 _ rfl (by decide)
      obtain ⟨v1, y1, n1, c1, t1⟩ := hrow i hi 1 _ rfl (by decide)
      obtain ⟨v2, y2, n2, c2, t2⟩ := hrow i hi 2 _ rfl (by decide)
      obtain ⟨v3, y3, n3, c3, t3⟩ := hrow i hi 3 _ rfl (by decide)
      obtain ⟨k0, e0, -, w0⟩ := DataW.trod_int Try.underlying5 t0
      obtain ⟨k1, e1, -⟩ := DataW.trod_bool Try.underlying4 t1
      obtain ⟨k2, e2, -, w2⟩ := DataW.trod_int Try.underlying3 t2
      obtain ⟨k3, e3, -, w3⟩ := DataW.trod_int Try.underlying32 t3
      simp only [List.cons.injEq, and_true] at e0 e1 e2 e3
      subst e0 e1 e2 e3
      have b0 := bounds_u8 w0
      have b2 := bounds_i64 w2
      have b3 := bounds_u64 w3
      exact ⟨(k0.toNat, k1, k2, k3.toNat), by rw [c0]; simp only; rw [Int.toNat_of_nonneg (by omega)], c1, c2, by rw [c3]; simp only; rw [Int.toNat_of_nonneg (by omega)], by simp only; omega, ⟨by simp only; omega, by simp only; omega⟩, by simp only; omega⟩
    obtain ⟨it, hit⟩ := Go.Deep.choose_lt each
    refine ⟨(List.range len).map it, by simp, ⟨by simp; omega, fun h0 => ?_⟩, fun t ht => ?_⟩
    · have hlen : 0 < len := by
        rcases Nat.eq_zero_or_pos len with h | h
        · subst h; simp at h0
        · exact h
      obtain ⟨b, off, hp⟩ := plainAt (hit 0 hlen).1
      obtain ⟨b', off', rfl⟩ : ∃ b off, a = ⟨b, off, none⟩ := by
        have e : a.add (0 * 4 + 0) = a := by simp [Addr.add]
        rw [e] at hp
        exact ⟨b, off, hp⟩
      refine ⟨b', off', rfl, fun i hi => ?_⟩
      have hil : i < len := by simpa using hi
      obtain ⟨h0, h1, h2, h3, -, -, -⟩ := hit i hil
      rw [plainAdd] at h0 h1 h2 h3
      simp only [List.getElem_map, List.getElem_range]
      rw [Nat.add_assoc, Nat.add_assoc, Nat.add_assoc]
      exact ⟨h0, h1, h2, h3⟩
    · simp only [List.mem_map, List.mem_range] at ht
      obtain ⟨i, hi, rfl⟩ := ht
      obtain ⟨-, -, -, -, h4, h5, h6⟩ := hit i hi
      exact ⟨h4, h5, h6⟩
end Go.Proofs.Ytibgjmlgjmnheaa
