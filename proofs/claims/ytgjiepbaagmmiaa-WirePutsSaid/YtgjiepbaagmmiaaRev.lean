/- Plain mathematics: the bytes of a number in the other order. -/
import Derived.WalkKit
import Derived.Laws.BitsAllLaws
namespace Go.Proofs.Ytgjiepbaagmmiaa
open Go.RowKit

theorem and_split (i a r c s : Nat) (ha : a < 2 ^ i) (hc : c < 2 ^ i) : (2 ^ i * r + a) &&& (2 ^ i * s + c) = 2 ^ i * (r &&& s) + (a &&& c) := by
  have hac : a &&& c < 2 ^ i := Nat.and_lt_two_pow _ hc
  apply Nat.eq_of_testBit_eq
  intro j
  rw [Nat.testBit_and, Nat.testBit_two_pow_mul_add _ ha, Nat.testBit_two_pow_mul_add _ hc, Nat.testBit_two_pow_mul_add _ hac]
  split <;> simp [Nat.testBit_and]
theorem or_split (i a r c s : Nat) (ha : a < 2 ^ i) (hc : c < 2 ^ i) : (2 ^ i * r + a) ||| (2 ^ i * s + c) = 2 ^ i * (r ||| s) + (a ||| c) := by
  have hac : a ||| c < 2 ^ i := Nat.or_lt_two_pow ha hc
  apply Nat.eq_of_testBit_eq
  intro j
  rw [Nat.testBit_or, Nat.testBit_two_pow_mul_add _ ha, Nat.testBit_two_pow_mul_add _ hc, Nat.testBit_two_pow_mul_add _ hac]
  split <;> simp [Nat.testBit_or]
theorem and255 (a b : Nat) (ha : a < 256) : (256 * b + a) &&& 255 = a := by
  have := Nat.and_two_pow_sub_one_eq_mod (256 * b + a) 8
  rw [show (2 ^ 8 - 1 : Nat) = 255 from rfl] at this
  rw [this]; omega
theorem and65535 (a b : Nat) (ha : a < 65536) : (65536 * b + a) &&& 65535 = a := by
  have := Nat.and_two_pow_sub_one_eq_mod (65536 * b + a) 16
  rw [show (2 ^ 16 - 1 : Nat) = 65535 from rfl] at this
  rw [this]; omega
/-- the bytes b0 (the lowest) to b7 -/
def by8 (b0 b1 b2 b3 b4 b5 b6 b7 : Nat) : Nat := 65536 * (65536 * (65536 * (256 * b7 + b6) + (256 * b5 + b4)) + (256 * b3 + b2)) + (256 * b1 + b0)
section
variable {b0 b1 b2 b3 b4 b5 b6 b7 : Nat} (h0 : b0 < 256) (h1 : b1 < 256) (h2 : b2 < 256) (h3 : b3 < 256) (h4 : b4 < 256) (h5 : b5 < 256) (h6 : b6 < 256) (h7 : b7 < 256)
include h0 h1 h2 h3 h4 h5 h6 h7
theorem m1 : by8 b0 b1 b2 b3 b4 b5 b6 b7 &&& 71777214294589695 = by8 b0 0 b2 0 b4 0 b6 0 := by
  have _ := h7
  have e : (71777214294589695 : Nat) = 2 ^ 16 * (2 ^ 16 * (2 ^ 16 * 255 + 255) + 255) + 255 := by decide
  unfold by8
  rw [e]
  rw [show (65536 : Nat) = 2 ^ 16 from rfl]
  rw [and_split 16 _ _ 255 _ (by omega) (by omega), and_split 16 _ _ 255 _ (by omega) (by omega), and_split 16 _ _ 255 _ (by omega) (by omega)]
  rw [and255 _ _ h0, and255 _ _ h2, and255 _ _ h4, and255 _ _ h6]
  simp
theorem m1s : by8 b0 b1 b2 b3 b4 b5 b6 b7 / 256 &&& 71777214294589695 = by8 b1 0 b3 0 b5 0 b7 0 := by
  have e : by8 b0 b1 b2 b3 b4 b5 b6 b7 / 256 = by8 b1 b2 b3 b4 b5 b6 b7 0 := by unfold by8; omega
  rw [e, m1 h1 h2 h3 h4 h5 h6 h7 (by omega)]
theorem j1 : by8 b1 0 b3 0 b5 0 b7 0 ||| by8 b0 0 b2 0 b4 0 b6 0 * 256 = by8 b1 b0 b3 b2 b5 b4 b7 b6 := by
  have _ := h6
  have e : by8 b0 0 b2 0 b4 0 b6 0 * 256 = by8 0 b0 0 b2 0 b4 0 b6 := by unfold by8; omega
  have k : ∀ a b : Nat, a < 256 → (256 * 0 + a) ||| (256 * b + 0) = 256 * b + a := by
    intro a b ha
    rw [Nat.or_comm, show (256 * 0 + a : Nat) = a by omega, nat_join 8 _ _ (by omega) ha, Nat.add_zero]
  rw [e]
  unfold by8
  rw [show (65536 : Nat) = 2 ^ 16 from rfl]
  rw [or_split 16 _ _ _ _ (by omega) (by omega), or_split 16 _ _ _ _ (by omega) (by omega), or_split 16 _ _ _ _ (by omega) (by omega)]
  rw [k _ _ h1, k _ _ h3, k _ _ h5, k _ _ h7]
theorem m2 : by8 b0 b1 b2 b3 b4 b5 b6 b7 &&& 281470681808895 = by8 b0 b1 0 0 b4 b5 0 0 := by
  have _ := h6
  have _ := h7
  have e : (281470681808895 : Nat) = 2 ^ 32 * 65535 + 65535 := by decide
  have f : by8 b0 b1 b2 b3 b4 b5 b6 b7 = 2 ^ 32 * (65536 * (256 * b7 + b6) + (256 * b5 + b4)) + (65536 * (256 * b3 + b2) + (256 * b1 + b0)) := by unfold by8; omega
  rw [e, f, and_split 32 _ _ _ _ (by omega) (by omega), and65535 _ _ (by omega), and65535 _ _ (by omega)]
  unfold by8; omega
theorem m2s : by8 b0 b1 b2 b3 b4 b5 b6 b7 / 65536 &&& 281470681808895 = by8 b2 b3 0 0 b6 b7 0 0 := by
  have e : by8 b0 b1 b2 b3 b4 b5 b6 b7 / 65536 = by8 b2 b3 b4 b5 b6 b7 0 0 := by unfold by8; omega
  rw [e, m2 h2 h3 h4 h5 h6 h7 (by omega) (by omega)]
theorem j2 : by8 b2 b3 0 0 b6 b7 0 0 ||| by8 b0 b1 0 0 b4 b5 0 0 * 65536 = by8 b2 b3 b0 b1 b6 b7 b4 b5 := by
  have _ := h4
  have _ := h5
  have e : by8 b0 b1 0 0 b4 b5 0 0 * 65536 = 2 ^ 32 * (65536 * (256 * b5 + b4)) + 65536 * (256 * b1 + b0) := by unfold by8; omega
  have e' : by8 b2 b3 0 0 b6 b7 0 0 = 2 ^ 32 * (256 * b7 + b6) + (256 * b3 + b2) := by unfold by8; omega
  rw [e, e', or_split 32 _ _ _ _ (by omega) (by omega)]
  rw [Nat.or_comm (256 * b7 + b6), nat_join 16 _ _ (by omega) (by omega), Nat.or_comm (256 * b3 + b2), nat_join 16 _ _ (by omega) (by omega)]
  unfold by8; omega
theorem j3 : by8 b0 b1 b2 b3 b4 b5 b6 b7 / 4294967296 ||| by8 b0 b1 b2 b3 b4 b5 b6 b7 * 4294967296 % 18446744073709551616 = by8 b4 b5 b6 b7 b0 b1 b2 b3 := by
  have e : by8 b0 b1 b2 b3 b4 b5 b6 b7 / 4294967296 = 65536 * (256 * b7 + b6) + (256 * b5 + b4) := by unfold by8; omega
  have e' : by8 b0 b1 b2 b3 b4 b5 b6 b7 * 4294967296 % 18446744073709551616 = 4294967296 * (65536 * (256 * b3 + b2) + (256 * b1 + b0)) := by unfold by8; omega
  rw [e, e', Nat.or_comm, nat_join 32 _ _ (by omega) (by omega)]
  unfold by8; omega
theorem by8_lt : by8 b0 b1 b2 b3 b4 b5 b6 b7 < 18446744073709551616 := by unfold by8; omega
end
theorem by8_of (n : Nat) (h : n < 18446744073709551616) : ∃ b0 b1 b2 b3 b4 b5 b6 b7, n = by8 b0 b1 b2 b3 b4 b5 b6 b7 ∧ b0 < 256 ∧ b1 < 256 ∧ b2 < 256 ∧ b3 < 256 ∧ b4 < 256 ∧ b5 < 256 ∧ b6 < 256 ∧ b7 < 256 := by
  refine ⟨n % 256, n / 256 % 256, n / 65536 % 256, n / 16777216 % 256, n / 4294967296 % 256, n / 1099511627776 % 256, n / 281474976710656 % 256, n / 72057594037927936, ?_, ?_, ?_, ?_, ?_, ?_, ?_, ?_, ?_⟩
  · unfold by8; omega
  all_goals omega
/-- what math/bits does, step by step -/
def rev1 (n : Int) : Int := bits .or .u64 (bits .and .u64 (n / 256) 71777214294589695) (IntKind.u64.wrap (bits .and .u64 n 71777214294589695 * 256))
def rev2 (n : Int) : Int := bits .or .u64 (bits .and .u64 (n / 65536) 281470681808895) (IntKind.u64.wrap (bits .and .u64 n 281470681808895 * 65536))
def rev3 (n : Int) : Int := bits .or .u64 (n / 4294967296) (IntKind.u64.wrap (n * 4294967296))
section
variable {b0 b1 b2 b3 b4 b5 b6 b7 : Nat} (h0 : b0 < 256) (h1 : b1 < 256) (h2 : b2 < 256) (h3 : b3 < 256) (h4 : b4 < 256) (h5 : b5 < 256) (h6 : b6 < 256) (h7 : b7 < 256)
include h0 h1 h2 h3 h4 h5 h6 h7
theorem rev1_by : rev1 (by8 b0 b1 b2 b3 b4 b5 b6 b7 : Nat) = (by8 b1 b0 b3 b2 b5 b4 b7 b6 : Nat) := by
  have L := by8_lt h0 h1 h2 h3 h4 h5 h6 h7
  have L1 := by8_lt h0 (b1 := 0) (by omega) h2 (b3 := 0) (by omega) h4 (b5 := 0) (by omega) h6 (b7 := 0) (by omega)
  have L2 := by8_lt h1 (b1 := 0) (by omega) h3 (b3 := 0) (by omega) h5 (b5 := 0) (by omega) h7 (b7 := 0) (by omega)
  have L3 : by8 b0 0 b2 0 b4 0 b6 0 * 256 < 18446744073709551616 := by unfold by8; omega
  unfold rev1
  rw [show ((by8 b0 b1 b2 b3 b4 b5 b6 b7 : Nat) : Int) / 256 = ((by8 b0 b1 b2 b3 b4 b5 b6 b7 / 256 : Nat) : Int) from rfl,
    show (71777214294589695 : Int) = ((71777214294589695 : Nat) : Int) from rfl, u64_and_nat _ _ (by omega) (by omega), u64_and_nat _ _ (by omega) (by omega),
    m1 h0 h1 h2 h3 h4 h5 h6 h7, m1s h0 h1 h2 h3 h4 h5 h6 h7, IntKind.wrap_u64,
    show ((by8 b0 0 b2 0 b4 0 b6 0 : Nat) : Int) * 256 % 18446744073709551616 = ((by8 b0 0 b2 0 b4 0 b6 0 * 256 : Nat) : Int) by omega, u64_or_nat _ _ (by omega) (by omega), j1 h0 h1 h2 h3 h4 h5 h6 h7]
theorem rev2_by : rev2 (by8 b0 b1 b2 b3 b4 b5 b6 b7 : Nat) = (by8 b2 b3 b0 b1 b6 b7 b4 b5 : Nat) := by
  have L := by8_lt h0 h1 h2 h3 h4 h5 h6 h7
  have L2 := by8_lt h2 h3 (b2 := 0) (by omega) (b3 := 0) (by omega) h6 h7 (b6 := 0) (by omega) (b7 := 0) (by omega)
  have L3 : by8 b0 b1 0 0 b4 b5 0 0 * 65536 < 18446744073709551616 := by unfold by8; omega
  unfold rev2
  rw [show ((by8 b0 b1 b2 b3 b4 b5 b6 b7 : Nat) : Int) / 65536 = ((by8 b0 b1 b2 b3 b4 b5 b6 b7 / 65536 : Nat) : Int) from rfl,
    show (281470681808895 : Int) = ((281470681808895 : Nat) : Int) from rfl, u64_and_nat _ _ (by omega) (by omega), u64_and_nat _ _ (by omega) (by omega),
    m2 h0 h1 h2 h3 h4 h5 h6 h7, m2s h0 h1 h2 h3 h4 h5 h6 h7, IntKind.wrap_u64,
    show ((by8 b0 b1 0 0 b4 b5 0 0 : Nat) : Int) * 65536 % 18446744073709551616 = ((by8 b0 b1 0 0 b4 b5 0 0 * 65536 : Nat) : Int) by omega, u64_or_nat _ _ (by omega) (by omega), j2 h0 h1 h2 h3 h4 h5 h6 h7]
theorem rev3_by : rev3 (by8 b0 b1 b2 b3 b4 b5 b6 b7 : Nat) = (by8 b4 b5 b6 b7 b0 b1 b2 b3 : Nat) := by
  have L := by8_lt h0 h1 h2 h3 h4 h5 h6 h7
  have j := j3 h0 h1 h2 h3 h4 h5 h6 h7
  unfold rev3
  generalize by8 b0 b1 b2 b3 b4 b5 b6 b7 = n at *
  rw [IntKind.wrap_u64, show (n : Int) / 4294967296 = ((n / 4294967296 : Nat) : Int) from rfl, show (n : Int) * 4294967296 % 18446744073709551616 = ((n * 4294967296 % 18446744073709551616 : Nat) : Int) from rfl,
    u64_or_nat _ _ (by omega) (by omega), j]
theorem rev_by : rev3 (rev2 (rev1 (by8 b0 b1 b2 b3 b4 b5 b6 b7 : Nat))) = (by8 b7 b6 b5 b4 b3 b2 b1 b0 : Nat) := by
  rw [rev1_by h0 h1 h2 h3 h4 h5 h6 h7, rev2_by h1 h0 h3 h2 h5 h4 h7 h6, rev3_by h3 h2 h1 h0 h7 h6 h5 h4]
end
end Go.Proofs.Ytgjiepbaagmmiaa
