/- A slice of pairs that came in, opened. -/
import Derived.Test.YtegdhggilaehdaaOpenStruct
import Derived.Test.YtegdhggilaehdaaDnPairs
namespace Go.Proofs.Ytegdhggilaehdaa
open Go.RowKit Go.ChangeShapes Go.WideShapes Go.Deep

set_option maxRecDepth 100000 in
theorem pairsOpen {H : Type} {enc : TypeId × Value → H} {W : World} {base : Nat} {spare : Nat → Bool} {held : Bool} {fuel len cap : Nat} {a0 : Option Addr} {x : DataW H × List MemPlace}
    (hf : DataW.trod enc Try.prog W base spare held fuel 22 [.slice a0 len cap] = some x) :
    ∃ l : List Pr, l.length = len ∧ PrI W a0 l ∧ (∀ t ∈ l, (-9223372036854775808 ≤ t.1 ∧ t.1 ≤ 9223372036854775807) ∧ t.2 < 18446744073709551616) ∧ (a0 = none → cap = 0) := by
  rcases structsOpen (k := 2) Try.underlying22 Try.underlying58 (by kernel_rfl) (by kernel_rfl) hf with hcs | ⟨a, l, c, hcs, hl, hm, hrow⟩
  · simp only [List.cons.injEq, Value.slice.injEq, and_true] at hcs
    obtain ⟨rfl, rfl, rfl⟩ := hcs
    exact ⟨[], rfl, ⟨by decide, fun h => absurd rfl h⟩, by simp, fun _ => rfl⟩
  · simp only [List.cons.injEq, Value.slice.injEq, and_true] at hcs
    obtain ⟨rfl, rfl, rfl⟩ := hcs
    have each : ∀ i, i < len → ∃ y : Pr, W.cell? (a.add (i * 2 + 0)) = some (.int .i64 y.1) ∧ W.cell? (a.add (i * 2 + 1)) = some (.int .u64 (y.2 : Nat)) ∧ (-9223372036854775808 ≤ y.1 ∧ y.1 ≤ 9223372036854775807) ∧ y.2 < 18446744073709551616 := by
      intro i hi
      obtain ⟨v0, y0, n0, c0, t0⟩ := hrow i hi 0 _ rfl (by decide)
      obtain ⟨v1, y1, n1, c1, t1⟩ := hrow i hi 1 _ rfl (by decide)
      obtain ⟨k0, e0, -, w0⟩ := DataW.trod_int Try.underlying3 t0
      obtain ⟨k1, e1, -, w1⟩ := DataW.trod_int Try.underlying29 t1
      simp only [List.cons.injEq, and_true] at e0 e1
      subst e0 e1
      have b0 := bounds_i64 w0
      have b1 := bounds_u64 w1
      exact ⟨(k0, k1.toNat), c0, by rw [c1]; simp only; rw [Int.toNat_of_nonneg (by omega)], ⟨by simp only; omega, by simp only; omega⟩, by simp only; omega⟩
    obtain ⟨it, hit⟩ := Go.Deep.choose_lt each
    refine ⟨(List.range len).map it, by simp, ⟨by simp; omega, fun h0 => ?_⟩, fun t ht => ?_, fun h => by cases h⟩
    · have hlen : 0 < len := by
        rcases Nat.eq_zero_or_pos len with h | h
        · subst h; simp at h0
        · exact h
      obtain ⟨b, off, hp⟩ := plainAt (hit 0 hlen).1
      obtain ⟨b', off', rfl⟩ : ∃ b off, a = ⟨b, off, none⟩ := by
        have e : a.add (0 * 2 + 0) = a := by simp [Addr.add]
        rw [e] at hp
        exact ⟨b, off, hp⟩
      refine ⟨b', off', rfl, fun i hi => ?_⟩
      have hil : i < len := by simpa using hi
      obtain ⟨h0, h1, -, -⟩ := hit i hil
      rw [plainAdd] at h0 h1
      simp only [List.getElem_map, List.getElem_range]
      exact ⟨h0, by rw [Nat.add_assoc]; exact h1⟩
    · simp only [List.mem_map, List.mem_range] at ht
      obtain ⟨i, hi, rfl⟩ := ht
      exact (hit i hi).2.2
end Go.Proofs.Ytegdhggilaehdaa
