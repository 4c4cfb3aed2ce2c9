/- A byte fed by a table. -/
import Derived.Test.YtbffdgeocacigaaCrcSpec
namespace Go.Proofs.Ytbffdgeocacigaa
open Go.RowKit

theorem xor_mod (c x : Nat) (hx : x < 256) : (c ^^^ x) % 256 = c % 256 ^^^ x := by
  have := Nat.xor_mod_two_pow (a := c) (b := x) (n := 8)
  rw [show (2 : Nat) ^ 8 = 256 by decide, Nat.mod_eq_of_lt hx] at this
  exact this
theorem xor_div (c x : Nat) (hx : x < 256) : (c ^^^ x) / 256 = c / 256 := by
  apply Nat.eq_of_testBit_eq
  intro i
  have e : (256 : Nat) = 2 ^ 8 := by decide
  rw [e, Nat.testBit_div_two_pow, Nat.testBit_div_two_pow, Nat.testBit_xor]
  have : x.testBit (8 + i) = false := Nat.testBit_lt_two_pow (Nat.lt_of_lt_of_le hx (by rw [e]; exact Nat.pow_le_pow_right (by decide) (by omega)))
  rw [show i + 8 = 8 + i by omega, this, Bool.xor_false]
theorem feed_table (c x : Nat) (hx : x < 256) : feed c x = TN 8 (c % 256 ^^^ x) ^^^ c / 256 := by
  have h : c ^^^ x = ((c ^^^ x) % 256) ^^^ ((c ^^^ x) / 256) * 2 ^ 8 := by
    have := add_xor ((c ^^^ x) % 256) ((c ^^^ x) / 256) (Nat.mod_lt _ (by decide))
    rw [show ((c ^^^ x) / 256) * 2 ^ 8 = 256 * ((c ^^^ x) / 256) by omega, ← this]
    omega
  unfold feed
  rw [h, TN_xor, TN_double, xor_mod c x hx, xor_div c x hx]
end Go.Proofs.Ytbffdgeocacigaa
