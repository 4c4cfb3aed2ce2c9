/- A slice of rows of bytes that came in, opened. -/
import Derived.Test.YtmcmchldjfnneaaOpen
import Derived.Deep.Matrix
namespace Go.Proofs.Ytmcmchldjfnneaa
open Go.RowKit Go.ChangeShapes

/-- a slice of rows of numbers that is read: where each row lies, its numbers, its capacity -/
def SlRows (w : World) (k : IntKind) (B : Nat) (p : Option Addr) (rs : List (Option Addr × List Nat × Nat)) : Prop :=
  rs.length ≤ maxLen ∧ (rs ≠ [] → ∃ b off, p = some ⟨b, off, none⟩ ∧ ∀ i, (h : i < rs.length) → w.cell? ⟨b, off + i, none⟩ = some (.slice rs[i].1 rs[i].2.1.length rs[i].2.2)) ∧
    ∀ r ∈ rs, SlI w k r.1 r.2.1 ∧ (∀ x ∈ r.2.1, x < B) ∧ (r.1 = none → r.2.2 = 0) ∧ r.2.1.length ≤ r.2.2
theorem SlRows.fr0 {w w' : World} {k : IntKind} {B : Nat} {p : Option Addr} {rs : List (Option Addr × List Nat × Nat)} (h : SlRows w k B p rs) (hf : Fr S0 w w') : SlRows w' k B p rs :=
  ⟨h.1, fun hl => let ⟨b, off, hp, hc⟩ := h.2.1 hl; ⟨b, off, hp, fun i hi => hf.cell (hc i hi) (fun h => h)⟩, fun r hr => ⟨(h.2.2 r hr).1.fr0 hf, (h.2.2 r hr).2⟩⟩
theorem SlRows.at {w : World} {k : IntKind} {B : Nat} {p : Option Addr} {rs : List (Option Addr × List Nat × Nat)} (h : SlRows w k B p rs) (i : Nat) (hi : i < rs.length) :
    ∃ b off, p = some ⟨b, off, none⟩ ∧ w.cell? ⟨b, off + i, none⟩ = some (.slice rs[i].1 rs[i].2.1.length rs[i].2.2) :=
  let ⟨b, off, hp, hc⟩ := h.2.1 (by intro e; simp [e] at hi); ⟨b, off, hp, hc i hi⟩
theorem plain_of_cell {w : World} {a : Addr} {v : Value} (h : w.cell? a = some v) : ∃ b off, a = ⟨b, off, none⟩ := by
  obtain ⟨b, off, sp⟩ := a
  cases sp with
  | none => exact ⟨b, off, rfl⟩
  | some y =>
    simp only [World.cell?] at h
    split at h
    · simp at h
    · cases h
theorem rowsOpen {W : World} {base : Nat} {a : Addr} {len cap : Nat} {A : Nat → Option Addr} {L C : Nat → Nat} {Z : Nat → List Int} (hl : len ≤ cap) (hm : cap ≤ maxLen)
    (h : ∀ r, r < cap → W.cell? (a.add r) = some (.slice (A r) (L r) (C r)) ∧ L r ≤ C r ∧ C r ≤ maxLen ∧ (Z r).length = C r ∧ (∀ n ∈ Z r, (Lit.int .u8 n).wf = true) ∧ (A r = none → C r = 0) ∧
      ∀ a', A r = some a' → base ≤ a'.block ∧ ∀ c, c < C r → W.cell? (a'.add c) = some (.int .u8 ((Z r).getD c 0))) :
    ∃ rs : List (Option Addr × List Nat × Nat), rs.length = len ∧ SlRows W .u8 256 (some a) rs := by
  have each : ∀ r, r < len → ∃ l : List Nat, l.length = L r ∧ SlI W .u8 (A r) l ∧ (∀ x ∈ l, x < 256) ∧ (A r = none → C r = 0) ∧ L r ≤ C r := by
    intro r hr
    obtain ⟨-, hLC, hCm, hZ, hw, hn, hc⟩ := h r (by omega)
    refine row8 (zs := Z r) ?_
    cases hA : A r with
    | none =>
      have h0 := hn hA
      exact .inl ⟨rfl, by omega, h0, List.eq_nil_of_length_eq_zero (by omega)⟩
    | some x => exact .inr ⟨x, rfl, hLC, hCm, hZ, fun i hi => (hc x hA).2 i (by omega), hw⟩
  obtain ⟨f, hf⟩ := Go.Deep.choose_lt each
  refine ⟨(List.range len).map fun r => (A r, f r, C r), by simp, by simp; omega, fun hne => ?_, fun r hr => ?_⟩
  · have h0 : 0 < len := by
      rcases Nat.eq_zero_or_pos len with h | h
      · subst h; simp at hne
      · exact h
    have hc0 := (h 0 (by omega)).1
    have e0 : a.add 0 = a := by simp [Addr.add]
    rw [e0] at hc0
    obtain ⟨b, off, rfl⟩ := plain_of_cell hc0
    refine ⟨b, off, rfl, fun i hi => ?_⟩
    have hi' : i < len := by simpa using hi
    have hplain : (⟨b, off, none⟩ : Addr).add i = ⟨b, off + i, none⟩ := by unfold Addr.add; split <;> simp_all
    have := (h i (by omega)).1
    rw [hplain] at this
    rw [this]
    simp [(hf i hi').1]
  · obtain ⟨i, hi, rfl⟩ := List.mem_map.1 hr
    have hi' := List.mem_range.1 hi
    obtain ⟨h1, h2, h3, h4, h5⟩ := hf i hi'
    exact ⟨h2, h3, h4, by rw [h1]; exact h5⟩
end Go.Proofs.Ytmcmchldjfnneaa
