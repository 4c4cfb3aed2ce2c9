/- Groups, codes, alignments and texts are written. -/
import Derived.Test.YtbpfmjekpjfceaaBitPut
namespace Go.Proofs.Ytbpfmjekpjfceaa
open Go.RowKit

/-- the bits of a code, the highest one first -/
def code (n c : Nat) : List Nat := (grp n c).reverse
theorem code_bit (n c : Nat) : Bit01 (code n c) := (grp_bit n c).rev
theorem code_length (n c : Nat) : (code n c).length = c := by simp [code]

theorem and_one (x : Nat) (hx : x < 4294967296) : bits .and .u32 (x : Int) 1 = ((x % 2 : Nat) : Int) := by
  have h := u32_and_nat x 1 hx (by decide)
  rw [Nat.and_one_is_mod] at h
  exact h

theorem fit_turn (n : Nat) (k : Nat) (hk : k ≤ 32) : fitB (turn n k) k = true :=
  decide_eq_true ⟨by omega, by omega, by rw [Int.toNat_natCast]; exact turn_lt n k⟩
theorem turn_32 (n k : Nat) (hk : k ≤ 32) : turn n k < 4294967296 :=
  Nat.lt_of_lt_of_le (turn_lt n k) (Nat.pow_le_pow_right (n := 2) (by decide) hk)

end Go.Proofs.Ytbpfmjekpjfceaa
