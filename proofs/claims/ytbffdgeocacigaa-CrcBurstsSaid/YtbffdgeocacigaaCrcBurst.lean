/- Plain mathematics of what is turned bit by bit. -/
import Derived.Test.YtbffdgeocacigaaCrcLawSums
namespace Go.Proofs.Ytbffdgeocacigaa
open Go.RowKit

theorem mul_xor (x y k : Nat) : (x ^^^ y) * 2 ^ k = x * 2 ^ k ^^^ y * 2 ^ k := by
  rw [← Nat.shiftLeft_eq, ← Nat.shiftLeft_eq, ← Nat.shiftLeft_eq, Nat.shiftLeft_xor_distrib]
theorem bit_add (v i : Nat) (h : v < 2 ^ i) : v + 2 ^ i = v ^^^ 2 ^ i := by
  apply Nat.eq_of_testBit_eq
  intro j
  have e : v + 2 ^ i = 2 ^ i * 1 + v := by omega
  rw [e, Nat.testBit_xor, Nat.testBit_two_pow_mul_add 1 h, Nat.testBit_two_pow]
  split
  · rename_i hj
    simp [show ¬ i = j by omega]
  · rename_i hj
    have : v.testBit j = false := Nat.testBit_lt_two_pow (Nat.lt_of_lt_of_le h (Nat.pow_le_pow_right (n := 2) (by decide) (by omega)))
    rw [this, Bool.false_xor, show (1 : Nat) = 2 ^ 0 by decide, Nat.testBit_two_pow]
    congr 1
    rw [eq_iff_iff]
    omega
theorem xor_lt8 (b x : Nat) (hb : b < 256) (hx : x < 256) : b ^^^ x < 256 := Nat.xor_lt_two_pow (n := 8) hb hx
theorem val_set : ∀ (l : List Nat) (i x : Nat) (hi : i < l.length) (_ : x < 256) (_ : ∀ y ∈ l, y < 256), val (l.set i (l[i] ^^^ x)) = val l ^^^ x * 2 ^ (8 * i)
  | [], i, x, hi, _, _ => by simp at hi
  | b :: r, 0, x, hi, hx, hb => by
    have h0 := hb b (by simp)
    rw [List.set_cons_zero, List.getElem_cons_zero, val, val, add_xor _ _ (xor_lt8 b x h0 hx), add_xor _ _ h0, Nat.mul_zero, Nat.pow_zero, Nat.mul_one, Nat.xor_assoc, Nat.xor_comm x, ← Nat.xor_assoc]
  | b :: r, i + 1, x, hi, hx, hb => by
    have h0 := hb b (by simp)
    have hr : i < r.length := by simpa using hi
    rw [List.set_cons_succ, List.getElem_cons_succ, val, val, val_set r i x hr hx (fun y hy => hb y (by simp [hy])), add_xor _ _ h0, add_xor _ _ h0, Nat.xor_assoc]
    congr 1
    have e : ∀ z, 256 * z = z * 2 ^ 8 := fun z => by omega
    rw [e, e, mul_xor, Nat.mul_assoc, ← Nat.pow_add, show 8 * i + 8 = 8 * (i + 1) by omega]
theorem set_lt (l : List Nat) (i x : Nat) (hi : i < l.length) (hx : x < 256) (hb : ∀ y ∈ l, y < 256) : ∀ y ∈ l.set i (l[i] ^^^ x), y < 256 := by
  intro y hy
  rcases List.mem_or_eq_of_mem_set hy with h | rfl
  · exact hb y h
  · exact xor_lt8 _ _ (hb _ (List.getElem_mem hi)) hx
theorem val_take (l : List Nat) (n : Nat) (hn : n ≤ l.length) (hb : ∀ y ∈ l, y < 256) : val (l.take n) = val l % 2 ^ (8 * n) := by
  have h := val_append (l.take n) (l.drop n)
  rw [List.take_append_drop, List.length_take, Nat.min_eq_left hn] at h
  have h2 := val_lt (l.take n) fun y hy => hb y (List.mem_of_mem_take hy)
  rw [List.length_take, Nat.min_eq_left hn] at h2
  have e : (2 : Nat) ^ (8 * n) = 256 ^ n := by rw [Nat.pow_mul]
  rw [h, e, Nat.add_mul_mod_self_left, Nat.mod_eq_of_lt h2]
theorem val_inj (a b : List Nat) (hl : a.length = b.length) (ha : ∀ y ∈ a, y < 256) (hb : ∀ y ∈ b, y < 256) (h : val a = val b) : a = b := by
  rw [← leB_val a ha, ← leB_val b hb, hl, h]
/-- what is turned in the first n bytes -/
theorem take_turned (L M : List Nat) (n f v : Nat) (hn : n ≤ L.length) (hlen : M.length = L.length) (hL : ∀ y ∈ L, y < 256) (hM : ∀ y ∈ M, y < 256) (h : val M = val L ^^^ v * 2 ^ f) :
    val (M.take n) = val (L.take n) ^^^ (if f ≤ 8 * n then v % 2 ^ (8 * n - f) else 0) * 2 ^ f := by
  rw [val_take M n (by omega) hM, val_take L n hn hL, h, Nat.xor_mod_two_pow]
  congr 1
  split
  · rename_i hf
    have e : 8 * n = 8 * n - f + f := by omega
    conv => lhs; rw [e]
    rw [Nat.pow_add, Nat.mul_mod_mul_right]
  · rename_i hf
    rw [Nat.zero_mul]
    have e : f = 8 * n + (f - 8 * n) := by omega
    rw [e, Nat.pow_add, ← Nat.mul_assoc, Nat.mul_right_comm, Nat.mul_mod_left]
/-- which of the turned bits lie in the first n bytes -/
def inn (n f v : Nat) : Nat := if f ≤ 8 * n then v % 2 ^ (8 * n - f) else 0
theorem inn_in (n f v i : Nat) (hv : v < 2 ^ i) (h : f + i < 8 * n) : inn n f (v + 2 ^ i) ≠ 0 := by
  have hp : 2 ^ (i + 1) ≤ 2 ^ (8 * n - f) := Nat.pow_le_pow_right (by decide) (by omega)
  have h2 : 2 ^ (i + 1) = 2 ^ i + 2 ^ i := by rw [Nat.pow_succ]; omega
  have h0 : 0 < 2 ^ i := Nat.pow_pos (by decide)
  unfold inn
  rw [if_pos (by omega), Nat.mod_eq_of_lt (by omega)]
  omega
theorem inn_out (n f v i : Nat) (h : ¬ f + i < 8 * n) : inn n f (v + 2 ^ i) = inn n f v := by
  unfold inn
  split
  · obtain ⟨k, hk⟩ : ∃ k, i = 8 * n - f + k := ⟨i - (8 * n - f), by omega⟩
    rw [hk, Nat.pow_add, Nat.add_mul_mod_self_left]
  · rfl
theorem burst_step (L M : List Nat) (f i v : Nat) (hv : v < 2 ^ i) (h : val M = val L ^^^ v * 2 ^ f) (k : Nat) (hk : k = f + i) (hi : k / 8 < M.length) (hM : ∀ y ∈ M, y < 256) :
    val (M.set (k / 8) (M[k / 8] ^^^ 2 ^ (k % 8))) = val L ^^^ (v + 2 ^ i) * 2 ^ f := by
  have hx : 2 ^ (k % 8) < 256 := by
    have : 2 ^ (k % 8) ≤ 2 ^ 7 := Nat.pow_le_pow_right (by decide) (by omega)
    omega
  rw [val_set M (k / 8) _ hi hx hM, h, bit_add v i hv, mul_xor, Nat.xor_assoc]
  congr 2
  rw [← Nat.pow_add, ← Nat.pow_add]
  congr 1
  omega
end Go.Proofs.Ytbffdgeocacigaa
