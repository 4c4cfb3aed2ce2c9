/- One bit is written. -/
import Derived.Test.YtbpfmjekpjfceaaBitSpec
namespace Go.Proofs.Ytbpfmjekpjfceaa
open Go.RowKit

/-- the cells of a writer's block -/
theorem wr_c0 {w : World} {g : Nat} {a b : Value} {t : TypeId} (h : w.heap[g]? = some (.cells #[a, b] t (0, 0))) : w.cell? ⟨g, 0, none⟩ = some a := by simp [World.cell?, h]
theorem wr_c1 {w : World} {g : Nat} {a b : Value} {t : TypeId} (h : w.heap[g]? = some (.cells #[a, b] t (0, 0))) : w.cell? ⟨g, 1, none⟩ = some b := by simp [World.cell?, h]
theorem wr_f {w : World} {g : Nat} {a b : Value} {t : TypeId} (h : w.heap[g]? = some (.cells #[a, b] t (0, 0))) (k : Nat) : w.frozen? ⟨g, k, none⟩ = false := by simp [World.frozen?, h]
theorem wr_s0 {w : World} {g : Nat} {a b : Value} {t : TypeId} (h : w.heap[g]? = some (.cells #[a, b] t (0, 0))) (x : Value) : (w.setCell ⟨g, 0, none⟩ x).heap[g]? = some (.cells #[x, b] t (0, 0)) := by rw [heap_setCell_same w g 0 _ _ _ h]; rfl
theorem wr_s1 {w : World} {g : Nat} {a b : Value} {t : TypeId} (h : w.heap[g]? = some (.cells #[a, b] t (0, 0))) (x : Value) : (w.setCell ⟨g, 1, none⟩ x).heap[g]? = some (.cells #[a, x] t (0, 0)) := by rw [heap_setCell_same w g 1 _ _ _ h]; rfl

/-- a bit is laid over zeros -/
theorem or_bit (o x k : Nat) (hk : k < 8) (ho : o < 2 ^ k) (hx : x < 2) : bits .or .u8 (o : Int) ((x : Int) * 2 ^ k % 256) = ((o + x * 2 ^ k : Nat) : Int) := by
  have hp : 2 ^ k ≤ 128 := Nat.le_trans (Nat.pow_le_pow_right (by decide) (show k ≤ 7 by omega)) (by decide)
  have h2 : x * 2 ^ k ≤ 128 := Nat.le_trans (Nat.mul_le_mul (show x ≤ 1 by omega) hp) (by decide)
  rw [show ((x : Int) * 2 ^ k % 256) = ((x * 2 ^ k : Nat) : Int) by
    have e : ((x * 2 ^ k : Nat) : Int) = (x : Int) * 2 ^ k := by simp
    rw [← e]
    omega, u8_or_nat _ _ (by omega) (by omega)]
  congr 1
  rw [Nat.or_comm, ← Nat.shiftLeft_eq, ← Nat.shiftLeft_add_eq_or_of_lt ho, Nat.add_comm]

theorem drew_row {w : World} {g : Nat} {o : Obj} (h : w.heap[g]? = some o) : w.drew.heap[g]? = some o := h
end Go.Proofs.Ytbpfmjekpjfceaa
