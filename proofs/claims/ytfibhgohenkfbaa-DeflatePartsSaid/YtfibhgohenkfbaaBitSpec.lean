/- What stands where a writer or a reader of bits is. -/
import Derived.Test.YtfibhgohenkfbaaBitTurn
import Derived.Test.YtfibhgohenkfbaaBytes
namespace Go.Proofs.Ytfibhgohenkfbaa
open Go.RowKit

theorem SlI.drop {w : World} {k : IntKind} {b o : Nat} {l : List Nat} (h : SlI w k (some ⟨b, o, none⟩) l) (n : Nat) : SlI w k (some ⟨b, o + n, none⟩) (l.drop n) := by
  refine ⟨by have := h.1; rw [List.length_drop]; omega, fun hl => ?_⟩
  obtain ⟨b', o', hp, hc⟩ := h.2 (by intro e; subst e; simp at hl)
  simp only [Option.some.injEq, Addr.mk.injEq] at hp
  obtain ⟨rfl, rfl, -⟩ := hp
  refine ⟨b, o + n, rfl, fun i hi => ?_⟩
  rw [List.length_drop] at hi
  rw [Nat.add_assoc, hc (n + i) (by omega), List.getElem_drop]

/-- what else stands in a writer's block: cells behind it, and the block's type -/
structure Wx where
  tl : List Value
  ty : TypeId
def Wx.cs (X : Wx) (a b : Value) : Array Value := ⟨a :: b :: X.tl⟩
/-- a writer's block of its own -/
def Wx0 : Wx := ⟨[], 53⟩

/-- block g is a writer that has written the bits L; r: its row's block -/
structure WrIs (X : Wx) (w : World) (g : Nat) (r : Option Nat) (L : List Nat) : Prop where
  ex : ∃ p c, w.heap[g]? = some (.cells (X.cs (.slice p (byt L).length c) (.int .i64 (L.length : Nat))) X.ty (0, 0)) ∧
    w.ownsRow 0 5 1 (.slice p (byt L).length c) (byt L).length (u8s (byt L)) ∧ Value.ownBlock (.slice p (byt L).length c) = r
  bits : Bit01 L
  apart : r ≠ some g
/-- the blocks of a writer -/
def WrB (g : Nat) (r : Option Nat) : Nat → Prop := fun j => j = g ∨ r = some j
/-- the writer g has gone on to the bits L -/
def WrTo (X : Wx) (w w' : World) (g : Nat) (r : Option Nat) (L : List Nat) : Prop :=
  ∃ r', WrIs X w' g r' L ∧ Fr (WrB g r) w w' ∧ (r' = r ∨ ∀ j, r' = some j → w.heap.size ≤ j)
variable {X : Wx}
theorem WrIs.lt {w : World} {g : Nat} {r : Option Nat} {L : List Nat} (h : WrIs X w g r L) : g < w.heap.size := by
  obtain ⟨p, c, h1, -, -⟩ := h.ex
  exact (Array.getElem?_eq_some_iff.1 h1).1
theorem WrIs.rlt {w : World} {g : Nat} {r : Option Nat} {L : List Nat} (h : WrIs X w g r L) : ∀ j, r = some j → j < w.heap.size := by
  obtain ⟨p, c, -, h2, h3⟩ := h.ex
  intro j hj
  exact (h2.lt j (h3.trans hj)).2
theorem WrIs.fr {w w' : World} {g : Nat} {r : Option Nat} {L : List Nat} {S : Nat → Prop} (h : WrIs X w g r L) (hf : Fr S w w') (hg : ¬ S g) (hr : ∀ j, r = some j → ¬ S j) : WrIs X w' g r L := by
  obtain ⟨p, c, h1, h2, h3⟩ := h.ex
  exact ⟨⟨p, c, hf.row h1 hg, hf.owns h2 (fun k hk => hr k (h3.symm.trans hk)), h3⟩, h.bits, h.apart⟩
theorem WrIs.fr0 {w w' : World} {g : Nat} {r : Option Nat} {L : List Nat} (h : WrIs X w g r L) (hf : Fr S0 w w') : WrIs X w' g r L := h.fr hf (fun h => h) (fun _ _ h => h)
theorem WrIs.self {w : World} {g : Nat} {r : Option Nat} {L : List Nat} (h : WrIs X w g r L) : WrTo X w w g r L := ⟨r, h, Fr.refl _ _, .inl rfl⟩
theorem WrTo.trans {w w1 w2 : World} {g : Nat} {r r1 : Option Nat} {L : List Nat} (hf : Fr (WrB g r) w w1) (hr : r1 = r ∨ ∀ j, r1 = some j → w.heap.size ≤ j) (h : WrTo X w1 w2 g r1 L) : WrTo X w w2 g r L := by
  obtain ⟨r2, h1, h2, h3⟩ := h
  refine ⟨r2, h1, hf.trans h2 (fun j hj e => ?_), ?_⟩
  · rcases e with e | e
    · exact .inl e
    · rcases hr with hr | hr
      · exact .inr (hr ▸ e)
      · have := hr j e; omega
  · rcases h3 with h3 | h3
    · subst h3
      exact hr
    · exact .inr fun j hj => Nat.le_trans hf.size (h3 j hj)
/-- a writer that is new to w -/
def WrNew (X : Wx) (w w' : World) (g : Nat) (L : List Nat) : Prop := ∃ r, WrIs X w' g r L ∧ Fr S0 w w' ∧ w.heap.size ≤ g ∧ ∀ j, r = some j → w.heap.size ≤ j
theorem WrNew.to {w w1 w2 : World} {g : Nat} {r : Option Nat} {L : List Nat} (hf : Fr S0 w w1) (hg : w.heap.size ≤ g) (hr : ∀ j, r = some j → w.heap.size ≤ j) (h : WrTo X w1 w2 g r L) : WrNew X w w2 g L := by
  obtain ⟨r2, h1, h2, h3⟩ := h
  refine ⟨r2, h1, hf.trans h2 (fun j hj e => ?_), hg, fun j hj => ?_⟩
  · rcases e with e | e
    · omega
    · have := hr j e; omega
  · rcases h3 with h3 | h3
    · exact hr j (h3 ▸ hj)
    · exact Nat.le_trans hf.size (h3 j hj)
/-- the zero writer in a block of its own -/
theorem WrNew.zero {w w1 : World} (hf : Fr S0 w w1) : WrNew Wx0 w (w1.alloc (.cells #[.slice none 0 0, .int .i64 0] 53)) w1.heap.size [] :=
  ⟨none, ⟨⟨none, 0, heap_alloc_new w1 _, World.ownsRow_nil _ _ _ _, rfl⟩, Bit01.nil, fun h => by cases h⟩, hf.trans0 (Fr.alloc _ _ _), hf.size, fun j h => by cases h⟩

/-- block g is a reader of the bytes b that stands at the bit k; r: its row's block -/
structure RdIs (w : World) (g : Nat) (r : Option Nat) (b : List Nat) (k : Nat) : Prop where
  ex : ∃ p c, w.heap[g]? = some (.cells #[.slice p b.length c, .int .i64 (k : Nat)] 83 (0, 0)) ∧
    w.ownsRow 0 5 1 (.slice p b.length c) b.length (u8s b) ∧ Value.ownBlock (.slice p b.length c) = r
  bytes : ∀ x ∈ b, x < 256
  inside : k ≤ 8 * b.length
  apart : r ≠ some g
/-- the reader g has gone on to the bit k -/
def RdTo (w w' : World) (g : Nat) (r : Option Nat) (b : List Nat) (k : Nat) : Prop := RdIs w' g r b k ∧ Fr (· = g) w w'
theorem RdIs.lt {w : World} {g : Nat} {r : Option Nat} {b : List Nat} {k : Nat} (h : RdIs w g r b k) : g < w.heap.size := by
  obtain ⟨p, c, h1, -, -⟩ := h.ex
  exact (Array.getElem?_eq_some_iff.1 h1).1
theorem RdIs.rlt {w : World} {g : Nat} {r : Option Nat} {b : List Nat} {k : Nat} (h : RdIs w g r b k) : ∀ j, r = some j → j < w.heap.size := by
  obtain ⟨p, c, -, h2, h3⟩ := h.ex
  intro j hj
  exact (h2.lt j (h3.trans hj)).2
theorem RdIs.fr {w w' : World} {g : Nat} {r : Option Nat} {b : List Nat} {k : Nat} {S : Nat → Prop} (h : RdIs w g r b k) (hf : Fr S w w') (hg : ¬ S g) (hr : ∀ j, r = some j → ¬ S j) : RdIs w' g r b k := by
  obtain ⟨p, c, h1, h2, h3⟩ := h.ex
  exact ⟨⟨p, c, hf.row h1 hg, hf.owns h2 (fun k hk => hr k (h3.symm.trans hk)), h3⟩, h.bytes, h.inside, h.apart⟩
theorem RdIs.fr0 {w w' : World} {g : Nat} {r : Option Nat} {b : List Nat} {k : Nat} (h : RdIs w g r b k) (hf : Fr S0 w w') : RdIs w' g r b k := h.fr hf (fun h => h) (fun _ _ h => h)
theorem RdIs.self {w : World} {g : Nat} {r : Option Nat} {b : List Nat} {k : Nat} (h : RdIs w g r b k) : RdTo w w g r b k := ⟨h, Fr.refl _ _⟩
theorem RdTo.trans {w w1 w2 : World} {g : Nat} {r : Option Nat} {b : List Nat} {k j : Nat} (h : RdTo w w1 g r b k) (i : RdTo w1 w2 g r b j) : RdTo w w2 g r b j := ⟨i.1, h.2.trans i.2 fun _ _ h => h⟩
/-- the reader's cell of the place is written -/
theorem RdIs.set {w : World} {g : Nat} {r : Option Nat} {b : List Nat} {k : Nat} (h : RdIs w g r b k) (j : Nat) (hj : j ≤ 8 * b.length) : RdTo w (w.setCell ⟨g, 1, none⟩ (.int .i64 (j : Nat))) g r b j := by
  obtain ⟨p, c, h1, h2, h3⟩ := h.ex
  refine ⟨⟨⟨p, c, by rw [heap_setCell_same w g 1 _ _ _ h1]; rfl, (Fr.setCell (· = g) w ⟨g, 1, none⟩ _ rfl).owns h2 (fun k hk e => h.apart (by rw [← h3, hk, e])), h3⟩, h.bytes, hj, h.apart⟩, Fr.setCell _ _ _ _ rfl⟩
/-- a reader that is new to w -/
def RdNew (w w' : World) (g : Nat) (r : Option Nat) (b : List Nat) (k : Nat) : Prop := RdIs w' g r b k ∧ Fr S0 w w' ∧ w.heap.size ≤ g ∧ ∀ j, r = some j → w.heap.size ≤ j
theorem RdNew.to {w w1 w2 : World} {g : Nat} {r : Option Nat} {b : List Nat} {k : Nat} (hf : Fr S0 w w1) (hg : w.heap.size ≤ g) (hr : ∀ j, r = some j → w.heap.size ≤ j) (h : RdTo w1 w2 g r b k) : RdNew w w2 g r b k :=
  ⟨h.1, hf.trans h.2 (fun j hj e => by omega), hg, hr⟩
/-- a row of bytes that is new to w -/
structure RowNew (w w' : World) (v : Value) (l : List Nat) : Prop where
  own : w'.ownsRow 0 5 1 v l.length (u8s l)
  fresh : Fresh w v
end Go.Proofs.Ytfibhgohenkfbaa
