/- A slice of structs that came in, its cells one by one. -/
import Derived.Test.YtbpfmjekpjfceaaOpen
import Derived.Deep.Fields
import Derived.Deep.Matrix
namespace Go.Proofs.Ytbpfmjekpjfceaa
open Go.RowKit Go.ChangeShapes Go.WideShapes Go.Deep

section
variable {H : Type} {enc : TypeId × Value → H} {P : Program} {w : World} {base : Nat} {spare : Nat → Bool} {held : Bool}
/-- nil, or at each place the struct's cells, each with what it reads as -/
theorem structsOpen {t e : TypeId} {fs : Array Field} {fuel : Nat} {cs : List Value} {x : DataW H × List MemPlace} {k : Nat} (ht : P.underlying t = some (.slice e)) (he : P.underlying e = some (.struct fs))
    (hone : oneCellFields P fs = true) (hC : P.cellsOf e = k) (h : DataW.trod enc P w base spare held fuel t cs = some x) :
    cs = [.slice none 0 0] ∨ ∃ (a : Addr) (len cap : Nat), cs = [.slice (some a) len cap] ∧ len ≤ cap ∧ cap ≤ maxLen ∧
      ∀ i, i < len → ∀ (j : Nat) (f : Field), fs[j]? = some f → j < k → ∃ (v : Value) (y : DataW H × List MemPlace) (n : Nat), w.cell? (a.add (i * k + j)) = some v ∧ DataW.trod enc P w base spare held n f.type [v] = some y := by
  rcases open_slice ht h with h0 | ⟨a, len, cap, m, n, D, Pl, hcs, _, hl, hm, hmm, _, hi⟩
  · exact .inl h0.1
  refine .inr ⟨a, len, cap, hcs, hl, hm, fun i hil j f hf hjk => ?_⟩
  have him : i < m := by rw [hmm]; split <;> omega
  obtain ⟨ds, hds, hread⟩ := hi i him
  rw [hC] at hds
  obtain ⟨_, hlen, hat⟩ := World.cells?_some hds
  obtain ⟨xs, n', _, _, _, hxl, hfield⟩ := DataW.trod_struct he hread
  obtain ⟨ho, h1⟩ := hone_of hone j f hf
  have hj : j < xs.length := by rw [hxl]; exact (Array.getElem?_eq_some_iff.1 hf).1
  have hr := hfield j f hf
  rw [ho, h1, take1_drop ds j undef (by omega), List.getElem?_eq_getElem hj] at hr
  refine ⟨ds.getD j undef, xs[j], n', ?_, hr⟩
  rw [← add_add, hat j hjk, List.getD_eq_getElem?_getD, List.getElem?_eq_getElem (by omega)]
  rfl
end

/-- an address that holds something lies plain -/
theorem plainAt {w : World} {a : Addr} {v : Value} (h : w.cell? a = some v) : ∃ b off, a = ⟨b, off, none⟩ := by
  obtain ⟨b, off, sp⟩ := a
  cases sp with
  | none => exact ⟨b, off, rfl⟩
  | some y =>
    simp only [World.cell?] at h
    split at h
    · simp at h
    · cases h
theorem plainAdd (b off i : Nat) : (⟨b, off, none⟩ : Addr).add i = ⟨b, off + i, none⟩ := by unfold Addr.add; split <;> simp_all
end Go.Proofs.Ytbpfmjekpjfceaa
