/- What stands where a writer or a reader of bits is. -/
import Derived.Test.YtbpfmjekpjfceaaBitTurn
import Derived.Test.YtbpfmjekpjfceaaBytes
namespace Go.Proofs.Ytbpfmjekpjfceaa
open Go.RowKit

theorem SlI.drop {w : World} {k : IntKind} {b o : Nat} {l : List Nat} (h : SlI w k (some ⟨b, o, none⟩) l) (n : Nat) : SlI w k (some ⟨b, o + n, none⟩) (l.drop n) := by
  refine ⟨by have := h.1; rw [List.length_drop]; omega, fun hl => ?_⟩
  obtain ⟨b', o', hp, hc⟩ := h.2 (by intro e; subst e; simp at hl)
  simp only [Option.some.injEq, Addr.mk.injEq] at hp
  obtain ⟨rfl, rfl, -⟩ := hp
  refine ⟨b, o + n, rfl, fun i hi => ?_⟩
  rw [List.length_drop] at hi
  rw [Nat.add_assoc, hc (n + i) (by omega), List.getElem_drop]

/-- the blocks of a writer -/
def WrB (g : Nat) (r : Option Nat) : Nat → Prop := fun j => j = g ∨ r = some j
/-- block g is a reader of the bytes b that stands at the bit k; r: its row's block -/
structure RdIs (w : World) (g : Nat) (r : Option Nat) (b : List Nat) (k : Nat) : Prop where
  ex : ∃ p c, w.heap[g]? = some (.cells #[.slice p b.length c, .int .i64 (k : Nat)] 89 (0, 0)) ∧
    w.ownsRow 0 5 1 (.slice p b.length c) b.length (u8s b) ∧ Value.ownBlock (.slice p b.length c) = r
  bytes : ∀ x ∈ b, x < 256
  inside : k ≤ 8 * b.length
  apart : r ≠ some g
/-- the reader g has gone on to the bit k -/
def RdTo (w w' : World) (g : Nat) (r : Option Nat) (b : List Nat) (k : Nat) : Prop := RdIs w' g r b k ∧ Fr (· = g) w w'
theorem RdIs.lt {w : World} {g : Nat} {r : Option Nat} {b : List Nat} {k : Nat} (h : RdIs w g r b k) : g < w.heap.size := by
  obtain ⟨p, c, h1, -, -⟩ := h.ex
  exact (Array.getElem?_eq_some_iff.1 h1).1
theorem RdIs.rlt {w : World} {g : Nat} {r : Option Nat} {b : List Nat} {k : Nat} (h : RdIs w g r b k) : ∀ j, r = some j → j < w.heap.size := by
  obtain ⟨p, c, -, h2, h3⟩ := h.ex
  intro j hj
  exact (h2.lt j (h3.trans hj)).2
theorem RdIs.fr {w w' : World} {g : Nat} {r : Option Nat} {b : List Nat} {k : Nat} {S : Nat → Prop} (h : RdIs w g r b k) (hf : Fr S w w') (hg : ¬ S g) (hr : ∀ j, r = some j → ¬ S j) : RdIs w' g r b k := by
  obtain ⟨p, c, h1, h2, h3⟩ := h.ex
  exact ⟨⟨p, c, hf.row h1 hg, hf.owns h2 (fun k hk => hr k (h3.symm.trans hk)), h3⟩, h.bytes, h.inside, h.apart⟩
theorem RdIs.fr0 {w w' : World} {g : Nat} {r : Option Nat} {b : List Nat} {k : Nat} (h : RdIs w g r b k) (hf : Fr S0 w w') : RdIs w' g r b k := h.fr hf (fun h => h) (fun _ _ h => h)
theorem RdIs.self {w : World} {g : Nat} {r : Option Nat} {b : List Nat} {k : Nat} (h : RdIs w g r b k) : RdTo w w g r b k := ⟨h, Fr.refl _ _⟩
theorem RdTo.trans {w w1 w2 : World} {g : Nat} {r : Option Nat} {b : List Nat} {k j : Nat} (h : RdTo w w1 g r b k) (i : RdTo w1 w2 g r b j) : RdTo w w2 g r b j := ⟨i.1, h.2.trans i.2 fun _ _ h => h⟩
/-- the reader's cell of the place is written -/
theorem RdIs.set {w : World} {g : Nat} {r : Option Nat} {b : List Nat} {k : Nat} (h : RdIs w g r b k) (j : Nat) (hj : j ≤ 8 * b.length) : RdTo w (w.setCell ⟨g, 1, none⟩ (.int .i64 (j : Nat))) g r b j := by
  obtain ⟨p, c, h1, h2, h3⟩ := h.ex
  refine ⟨⟨⟨p, c, by rw [heap_setCell_same w g 1 _ _ _ h1]; rfl, (Fr.setCell (· = g) w ⟨g, 1, none⟩ _ rfl).owns h2 (fun k hk e => h.apart (by rw [← h3, hk, e])), h3⟩, h.bytes, hj, h.apart⟩, Fr.setCell _ _ _ _ rfl⟩
/-- a reader that is new to w -/
def RdNew (w w' : World) (g : Nat) (r : Option Nat) (b : List Nat) (k : Nat) : Prop := RdIs w' g r b k ∧ Fr S0 w w' ∧ w.heap.size ≤ g ∧ ∀ j, r = some j → w.heap.size ≤ j
theorem RdNew.to {w w1 w2 : World} {g : Nat} {r : Option Nat} {b : List Nat} {k : Nat} (hf : Fr S0 w w1) (hg : w.heap.size ≤ g) (hr : ∀ j, r = some j → w.heap.size ≤ j) (h : RdTo w1 w2 g r b k) : RdNew w w2 g r b k :=
  ⟨h.1, hf.trans h.2 (fun j hj e => by omega), hg, hr⟩
/-- a row of bytes that is new to w -/
structure RowNew (w w' : World) (v : Value) (l : List Nat) : Prop where
  own : w'.ownsRow 0 5 1 v l.length (u8s l)
  fresh : Fresh w v
end Go.Proofs.Ytbpfmjekpjfceaa
