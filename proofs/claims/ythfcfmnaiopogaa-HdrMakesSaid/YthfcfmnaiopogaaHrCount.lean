/- The document's histograms: a value is counted. -/
import Derived.Test.YthfcfmnaiopogaaHrCheck
namespace Go.Proofs.Ythfcfmnaiopogaa
open Go.RowKit

/-- the document's histogram g was turned: it is M now -/
structure RTurn (W W' : World) (g : Nat) (p p' : Option Addr) (n c : Nat) (M : Hm) : Prop where
  is : RefIs W' g p' n c M
  fr : Fr (· = g) W W'
  row : p' = p ∨ ∀ a, p' = some a → W.heap.size ≤ a.block ∧ a.block < W'.heap.size
def rcells (M : Hm) (b : Nat) (p : Option Addr) (n c : Nat) : Array Value := #[.int .i64 (M.L : Nat), .int .i64 (M.H : Nat), .int .i64 (M.D : Nat), .int .i64 (M.u : Nat), .int .i64 (M.m : Nat), .bool M.gr, .int .i64 (b : Nat), .slice p n c]
theorem rcells7 (M : Hm) (b : Nat) (p q : Option Addr) (n c n' c' : Nat) : (rcells M b p n c).set! 7 (.slice q n' c') = rcells M b q n' c' := rfl
theorem rcells6 (M : Hm) (b b' : Nat) (p : Option Addr) (n c : Nat) : (rcells M b p n c).set! 6 (.int .i64 (b' : Nat)) = rcells M b' p n c := rfl
theorem Acc.form {w wr : World} {v : Value} {N : Nat} {L : List Pr} (h : Acc w wr v N L) (hN : N ≤ 1000000) : ∃ p n c, v = .slice p n c ∧ L.length = n ∧ PrI wr p L ∧ ∀ a, p = some a → w.heap.size ≤ a.block ∧ a.block < wr.heap.size := by
  obtain ⟨p, c, rfl⟩ := slFormN h.own
  have hl := h.len
  refine ⟨p, N, c, rfl, hl, PrI.ofOwns h.own (by unfold maxLen; omega), fun a ha => ⟨h.fresh a.block (by rw [ha]; rfl), (h.own.lt a.block (by rw [ha]; rfl)).2⟩⟩

section
variable (g : Nat) (p : Option Addr) (k c : Nat) (M : Hm) (w : World) (s : RefIs w g p k c M)
include s
end
end Go.Proofs.Ythfcfmnaiopogaa
