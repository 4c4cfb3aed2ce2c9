/- The document's histograms: one takes another. -/
import Derived.Test.YthfcfmnaiopogaaHrEnds
namespace Go.Proofs.Ythfcfmnaiopogaa
open Go.RowKit

/-- the document's histogram g while it is turned -/
structure RMid (w W : World) (g : Nat) (p p' : Option Addr) (n c : Nat) (M : Hm) (b : Nat) (l : List Pr) : Prop where
  blk : W.heap[g]? = some (.cells (rcells M b p' n c) 54 (0, 0))
  pri : PrI W p' l
  len : l.length = n
  off : ∀ a, p' = some a → a.block ≠ g
  row : p' = p ∨ ∀ a, p' = some a → w.heap.size ≤ a.block ∧ a.block < W.heap.size
  fr : Fr (· = g) w W
section
variable {w W W' : World} {g : Nat} {p p' : Option Addr} {n c b : Nat} {M : Hm} {l : List Pr}
theorem RefIs.mid (s : RefIs w g p n c M) : RMid w w g p p n c M M.b M.l := ⟨s.blk, s.pri, s.len, s.off, .inl rfl, Fr.refl _ _⟩
theorem RMid.fr0 (h : RMid w W g p p' n c M b l) (f : Fr S0 W W') : RMid w W' g p p' n c M b l :=
  ⟨f.row h.blk (fun h => h), h.pri.fr0 f, h.len, h.off, h.row.imp id fun r a ha => ⟨(r a ha).1, Nat.lt_of_lt_of_le (r a ha).2 f.size⟩, h.fr.trans0 f⟩
theorem RMid.c6 (h : RMid w W g p p' n c M b l) : W.cell? ⟨g, 6, none⟩ = some (.int .i64 (b : Nat)) := by simp [World.cell?, h.blk, rcells]
theorem RMid.c7 (h : RMid w W g p p' n c M b l) : W.cell? ⟨g, 7, none⟩ = some (.slice p' n c) := by simp [World.cell?, h.blk, rcells]
theorem RMid.z (h : RMid w W g p p' n c M b l) (k : Nat) : W.frozen? ⟨g, k, none⟩ = false := by simp [World.frozen?, h.blk]
theorem RMid.set7 {q : Option Addr} {n' c' : Nat} {l' : List Pr} (h : RMid w W g p p' n c M b l) (hg : g < w.heap.size) (hp : PrI W q l') (hl : l'.length = n') (hq : ∀ a, q = some a → w.heap.size ≤ a.block ∧ a.block < W.heap.size) :
    RMid w (W.setCell ⟨g, 7, none⟩ (.slice q n' c')) g p q n' c' M b l' := by
  have hst : Fr (· = g) W (W.setCell ⟨g, 7, none⟩ (.slice q n' c')) := Fr.setCell (· = g) _ _ _ rfl
  exact ⟨by rw [heap_setCell_same W g 7 _ _ _ h.blk]; rfl, hp.fr hst (fun a ha e => by have h1 := (hq a ha).1; have h2 : a.block = g := e; omega), hl, fun a ha e => by have h1 := (hq a ha).1; omega,
    .inr fun a ha => ⟨(hq a ha).1, Nat.lt_of_lt_of_le (hq a ha).2 hst.size⟩, h.fr.trans hst fun _ _ h => h⟩
theorem RMid.set6 {b' : Nat} (h : RMid w W g p p' n c M b l) : RMid w (W.setCell ⟨g, 6, none⟩ (.int .i64 (b' : Nat))) g p p' n c M b' l := by
  have hst : Fr (· = g) W (W.setCell ⟨g, 6, none⟩ (.int .i64 (b' : Nat))) := Fr.setCell (· = g) _ _ _ rfl
  exact ⟨by rw [heap_setCell_same W g 6 _ _ _ h.blk]; rfl, h.pri.fr hst (fun a ha e => h.off a ha e), h.len, h.off, h.row.imp id fun r a ha => ⟨(r a ha).1, Nat.lt_of_lt_of_le (r a ha).2 hst.size⟩, h.fr.trans hst fun _ _ h => h⟩
theorem RMid.turn {M' : Hm} (h : RMid w W g p p' n c M b l) (e : M' = { M with b := b, l := l }) (hg : M'.Good) : RTurn w W g p p' n c M' := by
  subst e
  exact ⟨⟨h.blk, h.pri, h.len, h.off, hg⟩, h.fr, h.row⟩
end
theorem len_put_le : ∀ (l : List Pr) (x : Int) (n : Nat), (lput l x n).length ≤ l.length + 1
  | [], _, _ => Nat.le_refl _
  | y :: r, x, n => by
    have ih := len_put_le r x n
    rw [lput]
    split
    · simp only [List.length_cons]; omega
    · split <;> simp only [List.length_cons] <;> omega
theorem len_puts_le (l : List Pr) : ∀ (m : List Pr), (lputs l m).length ≤ l.length + m.length := by
  intro m
  induction m generalizing l with
  | nil => exact Nat.le_refl _
  | cons x m ih =>
    have h1 := ih (lput l x.1 x.2)
    have h2 := len_put_le l x.1 x.2
    show (lputs (lput l x.1 x.2) m).length ≤ _
    simp only [List.length_cons]; omega

section
variable (g q : Nat) (p p2 : Option Addr) (k c k2 c2 : Nat) (M G : Hm) (w : World) (s : RefIs w g p k c M) (t : RefIs w q p2 k2 c2 G)
include s t
end
end Go.Proofs.Ythfcfmnaiopogaa
