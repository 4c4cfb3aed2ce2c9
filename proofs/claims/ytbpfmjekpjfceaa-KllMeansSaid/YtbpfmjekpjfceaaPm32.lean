/- WdDig -/
import Derived.Test.YtbpfmjekpjfceaaPm16
import Derived.Lib.BitFns
set_option maxRecDepth 100000
set_option maxHeartbeats 8000000
namespace Go.Proofs.Ytbpfmjekpjfceaa
def dg (n i : Nat) : Nat := n / 65536 ^ i % 65536
theorem dg_lt (n i : Nat) : dg n i < 65536 := Nat.mod_lt _ (by decide)
theorem digs_snoc : ∀ k n, digs (k + 1) n = digs k n ++ [dg n k]
  | 0, n => by simp [digs, dg]
  | k + 1, n => by
    rw [digs, digs_snoc k (n / 65536)]
    conv => rhs; rw [digs]
    rw [List.cons_append]
    congr 3
    unfold dg
    rw [Nat.div_div_eq_div_mul, Nat.pow_succ, Nat.mul_comm 65536]
theorem mod_next (n k : Nat) : n % 65536 ^ (k + 1) = n % 65536 ^ k + 65536 ^ k * dg n k := by
  rw [Nat.pow_succ, Nat.mod_mul]; rfl
def cy (x y k : Nat) : Nat := (x % 65536 ^ k + y % 65536 ^ k) / 65536 ^ k
theorem cy_zero (x y : Nat) : cy x y 0 = 0 := by simp [cy, Nat.mod_one]
theorem cy_le (x y k : Nat) : cy x y k ≤ 1 := by
  have p : 0 < 65536 ^ k := Nat.pow_pos (by decide)
  have h1 := Nat.mod_lt x p
  have h2 := Nat.mod_lt y p
  unfold cy
  have : (x % 65536 ^ k + y % 65536 ^ k) / 65536 ^ k < 2 := by rw [Nat.div_lt_iff_lt_mul p]; omega
  omega
theorem cy_next (x y k : Nat) : (dg x k + dg y k + cy x y k) % 65536 = dg (x + y) k ∧ (dg x k + dg y k + cy x y k) / 65536 = cy x y (k + 1) := by
  have p : 0 < 65536 ^ k := Nat.pow_pos (by decide)
  constructor
  · have e : x + y = 65536 ^ k * (x / 65536 ^ k + y / 65536 ^ k) + (x % 65536 ^ k + y % 65536 ^ k) := by
      have h1 := Nat.div_add_mod x (65536 ^ k)
      have h2 := Nat.div_add_mod y (65536 ^ k)
      rw [Nat.mul_add]; omega
    have e2 : (x + y) / 65536 ^ k = x / 65536 ^ k + y / 65536 ^ k + cy x y k := by
      rw [e, Nat.mul_add_div p]; rfl
    unfold dg
    rw [e2]
    omega
  · have e : x % 65536 ^ (k + 1) + y % 65536 ^ (k + 1) = 65536 ^ k * (dg x k + dg y k) + (x % 65536 ^ k + y % 65536 ^ k) := by
      rw [mod_next, mod_next, Nat.mul_add]; omega
    conv => rhs; unfold cy
    rw [e, Nat.pow_succ, ← Nat.div_div_eq_div_mul, Nat.mul_add_div p]
    rfl
theorem four_next (x f j : Nat) : x / 65536 ^ f % 65536 ^ (j + 1) = 65536 * (x / 65536 ^ (f + 1) % 65536 ^ j) + dg x f := by
  have e : x / 65536 ^ (f + 1) = x / 65536 ^ f / 65536 := by rw [Nat.pow_succ, Nat.div_div_eq_div_mul]
  rw [e, Nat.pow_succ, Nat.mul_comm (65536 ^ j), Nat.mod_mul]
  unfold dg
  omega
theorem mul_step (l : List Nat) (j o n : Nat) (hj : j < l.length) (ho : l.getD j 0 = o) : val (l.set j (n % 65536)) + n / 65536 * 65536 ^ (j + 1) + o * 65536 ^ j = val l + n * 65536 ^ j := by
  have h := val_set l j (n % 65536) hj
  rw [ho] at h
  have e : n * 65536 ^ j = n / 65536 * 65536 ^ (j + 1) + n % 65536 * 65536 ^ j := by
    rw [Nat.pow_succ, Nat.mul_comm (65536 ^ j), ← Nat.mul_assoc, ← Nat.add_mul, Nat.mul_comm (n / 65536), Nat.div_add_mod]
  omega
theorem bit_at (x i : Nat) : dg x (i / 16) / 2 ^ (i % 16) % 2 = x / 2 ^ i % 2 := by
  unfold dg
  have e : (65536 : Nat) ^ (i / 16) * 2 ^ (i % 16) = 2 ^ i := by
    rw [show (65536 : Nat) = 2 ^ 16 by decide, ← Nat.pow_mul, ← Nat.pow_add, Nat.div_add_mod]
  rw [← e, ← Nat.div_div_eq_div_mul]
  have hr : i % 16 < 16 := Nat.mod_lt _ (by decide)
  generalize x / 65536 ^ (i / 16) = y
  generalize i % 16 = r at hr
  have e2 : 65536 = 2 ^ r * 2 ^ (16 - r) := by rw [← Nat.pow_add, show r + (16 - r) = 16 by omega]
  rw [e2, Nat.mod_mul_right_div_self, show 16 - r = (15 - r) + 1 by omega, Nat.pow_succ, Nat.mul_comm, Nat.mod_mul_right_mod]
theorem quo_step {x d i Q L : Nat} (hQ : x / 2 ^ (i + 1) / d = Q) (hL : x / 2 ^ (i + 1) % d = L) (hd : 0 < d) :
    x / 2 ^ i / d = 2 * Q + (2 * L + x / 2 ^ i % 2) / d ∧ x / 2 ^ i % d = (2 * L + x / 2 ^ i % 2) % d ∧ (2 * L + x / 2 ^ i % 2) / d ≤ 1 := by
  have e : x / 2 ^ i = d * (2 * Q) + (2 * L + x / 2 ^ i % 2) := by
    have h1 : x / 2 ^ (i + 1) = x / 2 ^ i / 2 := by rw [Nat.pow_succ, Nat.div_div_eq_div_mul]
    have h2 := Nat.div_add_mod (x / 2 ^ (i + 1)) d
    rw [hQ, hL, h1] at h2
    have h3 := Nat.div_add_mod (x / 2 ^ i) 2
    rw [Nat.mul_left_comm]
    generalize d * Q = A at h2 ⊢
    omega
  have hL2 : L < d := by rw [← hL]; exact Nat.mod_lt _ hd
  refine ⟨?_, ?_, ?_⟩
  · conv => lhs; rw [e, Nat.mul_add_div hd]
  · conv => lhs; rw [e, Nat.mul_add_mod]
  · have : (2 * L + x / 2 ^ i % 2) / d < 2 := by rw [Nat.div_lt_iff_lt_mul hd]; omega
    omega
theorem digit_room (Q i : Nat) : dg (Q * 2 ^ (i + 1)) (i / 16) + 2 ^ (i % 16) < 65536 := by
  unfold dg
  have e : (65536 : Nat) ^ (i / 16) * 2 ^ (i % 16) = 2 ^ i := by
    rw [show (65536 : Nat) = 2 ^ 16 by decide, ← Nat.pow_mul, ← Nat.pow_add, Nat.div_add_mod]
  have hr : i % 16 < 16 := Nat.mod_lt _ (by decide)
  have p : 0 < (65536 : Nat) ^ (i / 16) := Nat.pow_pos (by decide)
  rw [Nat.pow_succ, ← e, show Q * (65536 ^ (i / 16) * 2 ^ (i % 16) * 2) = 65536 ^ (i / 16) * (Q * (2 ^ (i % 16) * 2)) by simp [Nat.mul_comm, Nat.mul_assoc], Nat.mul_div_cancel_left _ p]
  generalize i % 16 = r at hr ⊢
  have e2 : 65536 = 2 ^ r * 2 * 2 ^ (15 - r) := by rw [← Nat.pow_succ, ← Nat.pow_add, show r + 1 + (15 - r) = 16 by omega]
  have p2 : 0 < 2 ^ r := Nat.pow_pos (by decide)
  have h3 : Q * (2 ^ r * 2) % 65536 = 2 ^ r * 2 * (Q % 2 ^ (15 - r)) := by
    rw [e2, Nat.mul_comm Q, Nat.mul_mod_mul_left]
  rw [h3]
  have h4 : Q % 2 ^ (15 - r) + 1 ≤ 2 ^ (15 - r) := Nat.mod_lt _ (Nat.pow_pos (by decide))
  have h5 := Nat.mul_le_mul_left (2 ^ r * 2) h4
  rw [← e2, Nat.mul_add] at h5
  omega
theorem digs_bit (Q i : Nat) (hi : i < 128) : (digs 8 (Q * 2 ^ (i + 1))).set (i / 16) (dg (Q * 2 ^ (i + 1)) (i / 16) + 2 ^ (i % 16)) = digs 8 ((2 * Q + 1) * 2 ^ i) := by
  have h := digs_set 8 (Q * 2 ^ (i + 1)) (i / 16) (2 ^ (i % 16)) (by omega) (digit_room Q i)
  refine h.trans ?_
  congr 1
  have e : (65536 : Nat) ^ (i / 16) * 2 ^ (i % 16) = 2 ^ i := by
    rw [show (65536 : Nat) = 2 ^ 16 by decide, ← Nat.pow_mul, ← Nat.pow_add, Nat.div_add_mod]
  rw [Nat.mul_comm (2 ^ (i % 16)), e, Nat.pow_succ, Nat.add_mul, Nat.one_mul, Nat.mul_comm (2 ^ i) 2, ← Nat.mul_assoc, Nat.mul_comm Q 2]
structure MulOut (x y i : Nat) (l : List Nat) : Prop where
  len : l.length = 8
  lt : ∀ a ∈ l, a < 65536
  zer : ∀ j, i + 4 ≤ j → l.getD j 0 = 0
  sum : val l = x % 65536 ^ i * y
structure MulIn (x y i k : Nat) (l : List Nat) (c : Nat) : Prop where
  len : l.length = 8
  lt : ∀ a ∈ l, a < 65536
  zer : ∀ j, i + 4 ≤ j → l.getD j 0 = 0
  sum : val l + c * 65536 ^ (i + k) = x % 65536 ^ i * y + 65536 ^ i * (dg x i * (y % 65536 ^ k))
  cl : c < 65536
theorem MulOut.start (x y : Nat) : MulOut x y 0 (digs 8 0) :=
  ⟨rfl, digs_lt 8 0, fun j hj => by
    by_cases h : j < 8
    · rw [digs_at 8 0 j h, Nat.zero_div]
    · rw [List.getD_eq_getElem?_getD, List.getElem?_eq_none (by rw [digs_len]; omega)]; rfl, by rw [val_digs]; simp [Nat.mod_one]⟩
theorem MulOut.on {x y i : Nat} {l : List Nat} (h : MulOut x y i l) : MulIn x y i 0 l 0 := ⟨h.len, h.lt, h.zer, by simp [Nat.mod_one, h.sum], by decide⟩
theorem getD_set_ne (l : List Nat) (a j v : Nat) (h : a ≠ j) : (l.set a v).getD j 0 = l.getD j 0 := by
  rw [List.getD_eq_getElem?_getD, List.getD_eq_getElem?_getD, List.getElem?_set_ne h]
theorem set_lt {l : List Nat} (h : ∀ a ∈ l, a < 65536) (j v : Nat) (hv : v < 65536) : ∀ a ∈ l.set j v, a < 65536 :=
  fun a ha => (List.mem_or_eq_of_mem_set ha).elim (h a) fun e => e ▸ hv
theorem prod_le {a b : Nat} (ha : a < 65536) (hb : b < 65536) : a * b ≤ 4294836225 := Nat.mul_le_mul (show a ≤ 65535 by omega) (show b ≤ 65535 by omega)
theorem MulIn.step {x y i k c : Nat} {l : List Nat} (h : MulIn x y i k l c) (hi : i < 4) (hk : k < 4) :
    MulIn x y i (k + 1) (l.set (i + k) ((l.getD (i + k) 0 + dg x i * dg y k + c) % 65536)) ((l.getD (i + k) 0 + dg x i * dg y k + c) / 65536) := by
  have ho := lt_of_getD h.lt (i + k)
  have hp := prod_le (dg_lt x i) (dg_lt y k)
  have hs := mul_step l (i + k) _ (l.getD (i + k) 0 + dg x i * dg y k + c) (by rw [h.len]; omega) rfl
  have hc := h.cl
  refine ⟨by rw [List.length_set]; exact h.len, set_lt h.lt _ _ (Nat.mod_lt _ (by decide)), fun j hj => by rw [getD_set_ne _ _ _ _ (by omega)]; exact h.zer j hj, ?_, by omega⟩
  have e1 : 65536 ^ i * (dg x i * (y % 65536 ^ (k + 1))) = 65536 ^ i * (dg x i * (y % 65536 ^ k)) + dg x i * dg y k * 65536 ^ (i + k) := by
    rw [mod_next, Nat.mul_add, Nat.mul_add, Nat.pow_add]
    congr 1
    simp only [Nat.mul_comm, Nat.mul_left_comm, Nat.mul_assoc]
  have h0 := h.sum
  rw [Nat.add_mul, Nat.add_mul] at hs
  rw [e1, show i + (k + 1) = i + k + 1 by omega]
  omega
theorem MulIn.done {x y i c : Nat} {l : List Nat} (h : MulIn x y i 4 l c) (hi : i < 4) (hy : y < 18446744073709551616) : l.getD (i + 4) 0 = 0 ∧ MulOut x y (i + 1) (l.set (i + 4) c) := by
  have hz := h.zer (i + 4) (Nat.le_refl _)
  refine ⟨hz, by rw [List.length_set]; exact h.len, set_lt h.lt _ _ h.cl, fun j hj => by rw [getD_set_ne _ _ _ _ (by omega)]; exact h.zer j (by omega), ?_⟩
  have hv := val_set l (i + 4) c (by rw [h.len]; omega)
  rw [hz, Nat.zero_mul, Nat.add_zero, h.sum, show (65536 : Nat) ^ 4 = 18446744073709551616 by decide, Nat.mod_eq_of_lt hy] at hv
  rw [hv, mod_next, Nat.add_mul, Nat.mul_assoc]
theorem MulOut.done {x y : Nat} {l : List Nat} (h : MulOut x y 4 l) (hx : x < 18446744073709551616) : l = digs 8 (x * y) := by
  have hs := h.sum
  rw [show (65536 : Nat) ^ 4 = 18446744073709551616 by decide, Nat.mod_eq_of_lt hx] at hs
  rw [← hs, ← h.len, digs_val l h.lt]
end Go.Proofs.Ytbpfmjekpjfceaa
