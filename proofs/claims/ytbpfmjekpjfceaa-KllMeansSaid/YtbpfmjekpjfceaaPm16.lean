/- WdMath, RkMath -/
import Derived.Lib.BitFns
set_option maxRecDepth 100000
set_option maxHeartbeats 8000000
namespace Go.Proofs.Ytbpfmjekpjfceaa
theorem bitLenAux_bd : ∀ (f x : Nat), 0 < x → x < 2 ^ f → x < 2 ^ Lib.bitLenAux f x ∧ 2 ^ Lib.bitLenAux f x ≤ 2 * x
  | 0, x, h0, h => by simp at h; omega
  | f + 1, x, h0, h => by
    rw [Lib.bitLenAux, if_neg (by omega), Nat.add_comm 1, Nat.pow_succ]
    by_cases h1 : x / 2 = 0
    · have e : Lib.bitLenAux f (x / 2) = 0 := by rw [h1]; cases f <;> simp [Lib.bitLenAux]
      rw [e]; omega
    · obtain ⟨a, b⟩ := bitLenAux_bd f (x / 2) (by omega) (by rw [Nat.pow_succ] at h; omega)
      omega
theorem bitLen_bd (x : Nat) (h0 : 0 < x) (h : x < 18446744073709551616) : x < 2 ^ Lib.bitLen x ∧ 2 ^ Lib.bitLen x ≤ 2 * x := bitLenAux_bd 64 x h0 h
theorem bitLen_le (x : Nat) (h0 : 0 < x) (h : x < 18446744073709551616) : Lib.bitLen x ≤ 64 := by
  by_cases hc : Lib.bitLen x ≤ 64
  · exact hc
  · have h1 := (bitLen_bd x h0 h).2
    have h2 : 2 ^ 65 ≤ 2 ^ Lib.bitLen x := Nat.pow_le_pow_right (by decide) (by omega)
    omega
theorem norm_bd (d s : Nat) (h0 : 0 < d) (h : d < 18446744073709551616) (hs : s = 64 - Lib.bitLen d) : 9223372036854775808 ≤ d * 2 ^ s ∧ d * 2 ^ s < 18446744073709551616 := by
  obtain ⟨a, b⟩ := bitLen_bd d h0 h
  have hl := bitLen_le d h0 h
  have e : 2 ^ Lib.bitLen d * 2 ^ s = 2 ^ 64 := by rw [← Nat.pow_add]; congr 1; omega
  have p : 0 < 2 ^ s := Nat.pow_pos (by decide)
  have h1 := Nat.mul_lt_mul_of_pos_right a p
  have h2 := Nat.mul_le_mul_right (2 ^ s) b
  rw [Nat.mul_assoc] at h2
  rw [e] at h1 h2
  omega
theorem guess_less {y a b u c q r : Nat} (hy : y = a * 4294967296 + b) (hu : u < y) (hc : c < 4294967296) (hq : q * a + r = u) (hQ : (u * 4294967296 + c) / y ≤ q)
    (h : 4294967296 ≤ q ∨ 4294967296 * r + c < q * b) : ∃ p, q = p + 1 ∧ p * a + (r + a) = u ∧ (u * 4294967296 + c) / y ≤ p := by
  have hlt : (u * 4294967296 + c) / y < q := by
    have hy0 : 0 < y := by omega
    rcases h with h | h
    · have : (u * 4294967296 + c) / y < 4294967296 := by rw [Nat.div_lt_iff_lt_mul hy0]; have := Nat.mul_le_mul_left 4294967296 (show u + 1 ≤ y by omega); omega
      omega
    · rw [Nat.div_lt_iff_lt_mul hy0, hy, Nat.mul_add, ← Nat.mul_assoc]
      generalize q * a = A at *
      generalize q * b = D at *
      omega
  have hq0 : 0 < q := Nat.lt_of_le_of_lt (Nat.zero_le _) hlt
  obtain ⟨p, rfl⟩ : ∃ p, q = p + 1 := ⟨q - 1, by omega⟩
  refine ⟨p, rfl, ?_, Nat.le_of_lt_succ hlt⟩
  rw [Nat.add_mul, Nat.one_mul] at hq
  generalize p * a = A at *
  omega
theorem guess_is {y a b u c q r : Nat} (hy : y = a * 4294967296 + b) (hu : u < y) (hq : q * a + r = u) (hQ : (u * 4294967296 + c) / y ≤ q) (h : q * b ≤ 4294967296 * r + c) :
    q = (u * 4294967296 + c) / y := by
  have hy0 : 0 < y := by omega
  refine Nat.le_antisymm ?_ hQ
  rw [Nat.le_div_iff_mul_le hy0, hy, Nat.mul_add, ← Nat.mul_assoc]
  generalize q * a = A at *
  generalize q * b = D at *
  omega
theorem guess_out {y a b u c q r : Nat} (hy : y = a * 4294967296 + b) (hb : b < 4294967296) (hu : u < y) (hq : q * a + r = u) (hQ : (u * 4294967296 + c) / y ≤ q) (hr : 4294967296 ≤ r) :
    q = (u * 4294967296 + c) / y := by
  refine guess_is hy hu hq hQ ?_
  have hq1 : q < 4294967296 := by
    refine Nat.lt_of_mul_lt_mul_right (a := a) ?_
    rw [Nat.mul_comm 4294967296]
    generalize q * a = A at *
    omega
  have : q * b ≤ 4294967295 * 4294967295 := Nat.mul_le_mul (by omega) (by omega)
  omega
theorem guess_lt {y u c : Nat} (hu : u < y) (hc : c < 4294967296) : (u * 4294967296 + c) / y < 4294967296 := by
  have hy0 : 0 < y := by omega
  rw [Nat.div_lt_iff_lt_mul hy0]
  have := Nat.mul_le_mul_left 4294967296 (show u + 1 ≤ y by omega)
  omega
theorem guess_first {y a b u c : Nat} (hy : y = a * 4294967296 + b) (ha : 0 < a) (hc : c < 4294967296) : u / a * a + u % a = u ∧ (u * 4294967296 + c) / y ≤ u / a := by
  refine ⟨Nat.div_add_mod' u a, ?_⟩
  have h1 : u / a = u * 4294967296 / (a * 4294967296) := (Nat.mul_div_mul_right u a (by decide)).symm
  have h2 : (u * 4294967296 + c) / (a * 4294967296) = u / a := by
    rw [Nat.mul_comm a, ← Nat.div_div_eq_div_mul]
    congr 1
    omega
  rw [← h2]
  exact Nat.div_le_div_left (by omega) (by omega)
theorem two_digits_of {y T N q r e : Nat} (hy : 0 < y) (h : y * q + r = T) (hN : N = T * 4294967296 + e) : q * 4294967296 + (r * 4294967296 + e) / y = N / y ∧ (r * 4294967296 + e) % y = N % y := by
  have e1 : N = y * (q * 4294967296) + (r * 4294967296 + e) := by
    rw [hN, ← h, ← Nat.mul_assoc, Nat.add_mul, Nat.add_assoc]
  rw [e1, Nat.mul_add_div hy, Nat.mul_add_mod]
  exact ⟨rfl, rfl⟩
theorem shifted (x d P : Nat) (hP : 0 < P) : x * P / (d * P) = x / d ∧ x * P % (d * P) / P = x % d := by
  refine ⟨Nat.mul_div_mul_right x d hP, ?_⟩
  rw [Nat.mul_mod_mul_right, Nat.mul_div_cancel _ hP]
theorem shift_words (hi lo s : Nat) (hs : s ≤ 64) : (hi * 2 ^ s + lo / 2 ^ (64 - s)) * 18446744073709551616 + lo * 2 ^ s % 18446744073709551616 = (hi * 18446744073709551616 + lo) * 2 ^ s := by
  have e : 2 ^ (64 - s) * 2 ^ s = 18446744073709551616 := by rw [← Nat.pow_add, show 64 - s + s = 64 by omega]
  have p : 0 < 2 ^ s := Nat.pow_pos (by decide)
  have h1 : lo * 2 ^ s / 18446744073709551616 = lo / 2 ^ (64 - s) := by rw [← e, Nat.mul_div_mul_right _ _ p]
  have h2 := Nat.div_add_mod (lo * 2 ^ s) 18446744073709551616
  rw [h1] at h2
  rw [Nat.add_mul, Nat.add_mul (hi * 18446744073709551616), Nat.mul_right_comm hi]
  omega
def digs : Nat → Nat → List Nat
  | 0, _ => []
  | k + 1, n => n % 65536 :: digs k (n / 65536)
def val : List Nat → Nat
  | [] => 0
  | x :: r => x + 65536 * val r
theorem digs_len : ∀ k n, (digs k n).length = k
  | 0, _ => rfl
  | k + 1, n => by rw [digs, List.length_cons, digs_len]
theorem digs_lt : ∀ k n, ∀ x ∈ digs k n, x < 65536
  | 0, _, x, h => by cases h
  | k + 1, n, x, h => by
    rw [digs] at h
    rcases List.mem_cons.1 h with rfl | h
    · omega
    · exact digs_lt k _ x h
theorem digs_at : ∀ k n i, i < k → (digs k n).getD i 0 = n / 65536 ^ i % 65536
  | k + 1, n, 0, _ => by simp [digs]
  | k + 1, n, i + 1, h => by
    rw [digs, List.getD_cons_succ, digs_at k _ i (by omega), Nat.div_div_eq_div_mul, Nat.pow_succ, Nat.mul_comm 65536]
theorem digs_get (k n i : Nat) (h : i < (digs k n).length) : (digs k n)[i] = n / 65536 ^ i % 65536 := by
  rw [← digs_at k n i (by rwa [digs_len] at h), List.getD_eq_getElem?_getD, List.getElem?_eq_getElem h]; rfl
theorem digs_val : ∀ l : List Nat, (∀ x ∈ l, x < 65536) → digs l.length (val l) = l
  | [], _ => rfl
  | x :: r, h => by
    have hx := h x List.mem_cons_self
    rw [List.length_cons, digs, val, show (x + 65536 * val r) % 65536 = x by omega, show (x + 65536 * val r) / 65536 = val r by omega, digs_val r fun y hy => h y (List.mem_cons_of_mem _ hy)]
theorem val_digs : ∀ k n, val (digs k n) = n % 65536 ^ k
  | 0, n => by simp [digs, val, Nat.mod_one]
  | k + 1, n => by rw [digs, val, val_digs k, Nat.pow_succ, Nat.mul_comm (65536 ^ k), Nat.mod_mul]
theorem val_set : ∀ (l : List Nat) (j v : Nat), j < l.length → val (l.set j v) + l.getD j 0 * 65536 ^ j = val l + v * 65536 ^ j
  | x :: r, 0, v, _ => by simp [val]; omega
  | x :: r, j + 1, v, h => by
    have := val_set r j v (by simpa using h)
    rw [List.set_cons_succ, val, val, List.getD_cons_succ, Nat.pow_succ, ← Nat.mul_assoc, ← Nat.mul_assoc]
    omega
theorem digs_set : ∀ (k n j v : Nat), j < k → n / 65536 ^ j % 65536 + v < 65536 → (digs k n).set j (n / 65536 ^ j % 65536 + v) = digs k (n + v * 65536 ^ j)
  | k + 1, n, 0, v, _, h => by
    simp only [Nat.pow_zero, Nat.div_one, Nat.mul_one] at h ⊢
    rw [digs, digs, List.set_cons_zero, show (n + v) % 65536 = n % 65536 + v by omega, show (n + v) / 65536 = n / 65536 by omega]
  | k + 1, n, j + 1, v, hj, h => by
    have e : n / 65536 ^ (j + 1) = n / 65536 / 65536 ^ j := by rw [Nat.div_div_eq_div_mul, Nat.pow_succ, Nat.mul_comm 65536]
    rw [e] at h ⊢
    have e2 : n + v * 65536 ^ (j + 1) = n + 65536 * (v * 65536 ^ j) := by rw [Nat.pow_succ, Nat.mul_comm (65536 ^ j), ← Nat.mul_assoc, ← Nat.mul_assoc, Nat.mul_comm v]
    rw [digs, digs, List.set_cons_succ, digs_set k (n / 65536) j v (by omega) h, e2, Nat.add_mul_mod_self_left, Nat.add_mul_div_left _ _ (by decide)]
theorem lt_of_getD {l : List Nat} (h : ∀ x ∈ l, x < 65536) (j : Nat) : l.getD j 0 < 65536 := by
  rw [List.getD_eq_getElem?_getD]
  by_cases hj : j < l.length
  · rw [List.getElem?_eq_getElem hj]; exact h _ (List.getElem_mem hj)
  · rw [List.getElem?_eq_none (by omega)]; decide
end Go.Proofs.Ytbpfmjekpjfceaa

namespace Go.Proofs.Ytbpfmjekpjfceaa
def clg (x d : Nat) : Nat := if x % d = 0 then x / d else x / d + 1
theorem clg_le {x d S : Nat} (h : x ≤ S * d) : clg x d ≤ S := by
  have e := Nat.div_add_mod x d
  rw [Nat.mul_comm] at e
  have hq : x / d ≤ S := Nat.div_le_of_le_mul (by rw [Nat.mul_comm]; exact h)
  unfold clg
  split
  · exact hq
  · rcases Nat.lt_or_ge (x / d) S with g | g
    · omega
    · have e2 : x / d = S := by omega
      rw [e2] at e
      omega
def rnk (a d n : Nat) : Nat := max 1 (clg (a * n) d)
theorem clg_all {a d n : Nat} (h : a ≤ d) : clg (a * n) d ≤ n := clg_le (by rw [Nat.mul_comm n d]; exact Nat.mul_le_mul_right n h)
theorem rnk_all {a d n : Nat} (h : a ≤ d) (hn : 0 < n) : 1 ≤ rnk a d n ∧ rnk a d n ≤ n := by
  have := clg_all (n := n) h
  unfold rnk
  omega
theorem quo_all {a d n : Nat} (h : a ≤ d) : a * n / d ≤ n :=
  Nat.div_le_of_le_mul (Nat.mul_le_mul_right n h)
theorem quo_part {a d n : Nat} (h : a ≤ d) (hr : a * n % d ≠ 0) : a * n / d + 1 ≤ n := by
  have := clg_all (n := n) h
  unfold clg at this
  rw [if_neg hr] at this
  exact this
end Go.Proofs.Ytbpfmjekpjfceaa
