/- Parts of a whole as numbers: ceilings, floors, divisors, powers of ten. -/
import Derived.Test.YtbpfmjekpjfceaaWdMath
namespace Go.Proofs.Ytbpfmjekpjfceaa

/-- the least number that isn't below x / d -/
def clg (x d : Nat) : Nat := if x % d = 0 then x / d else x / d + 1
theorem clg_up (x : Nat) {d : Nat} (hd : 0 < d) : x ≤ clg x d * d := by
  have h := Nat.div_add_mod x d
  rw [Nat.mul_comm] at h
  unfold clg
  split
  · omega
  · have := Nat.mod_lt x hd
    rw [Nat.add_mul]
    omega
theorem clg_le {x d S : Nat} (h : x ≤ S * d) : clg x d ≤ S := by
  have e := Nat.div_add_mod x d
  rw [Nat.mul_comm] at e
  have hq : x / d ≤ S := Nat.div_le_of_le_mul (by rw [Nat.mul_comm]; exact h)
  unfold clg
  split
  · exact hq
  · rcases Nat.lt_or_ge (x / d) S with g | g
    · omega
    · have e2 : x / d = S := by omega
      rw [e2] at e
      omega
/-- a part's rank -/
def rnk (a d n : Nat) : Nat := max 1 (clg (a * n) d)
/-- a part's spot -/
def spt (a d n : Nat) : Nat := a * (2 * n) / d
theorem clg_all {a d n : Nat} (h : a ≤ d) : clg (a * n) d ≤ n := clg_le (by rw [Nat.mul_comm n d]; exact Nat.mul_le_mul_right n h)
theorem rnk_all {a d n : Nat} (h : a ≤ d) (hn : 0 < n) : 1 ≤ rnk a d n ∧ rnk a d n ≤ n := by
  have := clg_all (n := n) h
  unfold rnk
  omega
theorem rnk_zero (d n : Nat) : rnk 0 d n = 1 := by
  unfold rnk clg
  rw [Nat.zero_mul, Nat.zero_mod, Nat.zero_div, if_pos rfl]
  rfl
theorem rnk_full {d n : Nat} (hd : 0 < d) (hn : 0 < n) : rnk d d n = n := by
  unfold rnk clg
  rw [Nat.mul_mod_right, if_pos rfl, Nat.mul_div_cancel_left _ hd]
  omega
theorem quo_all {a d n : Nat} (h : a ≤ d) : a * n / d ≤ n :=
  Nat.div_le_of_le_mul (Nat.mul_le_mul_right n h)
theorem quo_part {a d n : Nat} (h : a ≤ d) (hr : a * n % d ≠ 0) : a * n / d + 1 ≤ n := by
  have := clg_all (n := n) h
  unfold clg at this
  rw [if_neg hr] at this
  exact this
theorem rnk_mono {a b c d n : Nat} (hd : 0 < d) (h : a * d ≤ c * b) : rnk a b n ≤ rnk c d n := by
  have e : clg (a * n) b ≤ clg (c * n) d := by
    apply clg_le
    have h1 := clg_up (c * n) hd
    have h2 : a * n * d ≤ clg (c * n) d * b * d := by
      calc a * n * d = a * d * n := by rw [Nat.mul_right_comm]
        _ ≤ c * b * n := Nat.mul_le_mul_right n h
        _ = c * n * b := by rw [Nat.mul_right_comm]
        _ ≤ clg (c * n) d * d * b := Nat.mul_le_mul_right b h1
        _ = clg (c * n) d * b * d := by rw [Nat.mul_right_comm]
    exact Nat.le_of_mul_le_mul_right h2 hd
  unfold rnk
  omega
theorem spt_mono {a b c d n : Nat} (hb : 0 < b) (hd : 0 < d) (h : a * d ≤ c * b) : spt a b n ≤ spt c d n := by
  unfold spt
  rw [Nat.le_div_iff_mul_le hd]
  have h1 := Nat.div_mul_le_self (a * (2 * n)) b
  have h2 : a * (2 * n) / b * d * b ≤ c * (2 * n) * b := by
    calc a * (2 * n) / b * d * b = a * (2 * n) / b * b * d := by rw [Nat.mul_right_comm]
      _ ≤ a * (2 * n) * d := Nat.mul_le_mul_right d h1
      _ = a * d * (2 * n) := by rw [Nat.mul_right_comm]
      _ ≤ c * b * (2 * n) := Nat.mul_le_mul_right (2 * n) h
      _ = c * (2 * n) * b := by rw [Nat.mul_right_comm]
  exact Nat.le_of_mul_le_mul_right h2 hb
theorem spt_all {a d n : Nat} (h : a ≤ d) : spt a d n ≤ 2 * n := quo_all h

/-- a step of Euclid's -/
theorem gcd_step (a b : Nat) : Nat.gcd b (a % b) = Nat.gcd a b := by
  rw [Nat.gcd_comm a b, Nat.gcd_rec b a, Nat.gcd_comm]
theorem least_same {a d : Nat} (hd : 0 < d) : a / Nat.gcd a d * d = a * (d / Nat.gcd a d) := by
  have hg : 0 < Nat.gcd a d := Nat.gcd_pos_of_pos_right _ hd
  obtain ⟨x, hx⟩ := Nat.gcd_dvd_left a d
  obtain ⟨y, hy⟩ := Nat.gcd_dvd_right a d
  have ex : a / Nat.gcd a d = x := Nat.div_eq_of_eq_mul_right hg hx
  have ey : d / Nat.gcd a d = y := Nat.div_eq_of_eq_mul_right hg hy
  rw [ex, ey]
  generalize Nat.gcd a d = g at hx hy
  subst hx hy
  rw [Nat.mul_left_comm, Nat.mul_assoc]
theorem least_apart {a d p : Nat} (hd : 0 < d) (hp : 2 ≤ p) (h1 : a / Nat.gcd a d % p = 0) (h2 : d / Nat.gcd a d % p = 0) : False := by
  have hg : 0 < Nat.gcd a d := Nat.gcd_pos_of_pos_right _ hd
  have hc : Nat.gcd (a / Nat.gcd a d) (d / Nat.gcd a d) = 1 := by
    rw [Nat.gcd_div (Nat.gcd_dvd_left a d) (Nat.gcd_dvd_right a d), Nat.div_self hg]
  have := Nat.dvd_gcd (Nat.dvd_of_mod_eq_zero h1) (Nat.dvd_of_mod_eq_zero h2)
  rw [hc] at this
  have := Nat.le_of_dvd (by decide) this
  omega
theorem least_times (a d : Nat) {k : Nat} (hk : 0 < k) : a * k / Nat.gcd (a * k) (d * k) = a / Nat.gcd a d ∧ d * k / Nat.gcd (a * k) (d * k) = d / Nat.gcd a d := by
  rw [Nat.gcd_mul_right]
  exact ⟨Nat.mul_div_mul_right _ _ hk, Nat.mul_div_mul_right _ _ hk⟩

/-- each number has as many digits as there are powers of ten that aren't above it -/
theorem pows (n : Nat) (h : n < 18446744073709551616) : ∃ c, c ≤ 20 ∧ n < 10 ^ c ∧ (∀ i, i < c → 10 ^ i ≤ n) := by
  have aux : ∀ k, n < 10 ^ k → ∃ c, c ≤ k ∧ n < 10 ^ c ∧ (∀ i, i < c → 10 ^ i ≤ n) := by
    intro k
    induction k with
    | zero => exact fun hn => ⟨0, Nat.le_refl _, hn, fun i hi => absurd hi (Nat.not_lt_zero _)⟩
    | succ k ih =>
      intro hn
      by_cases hk : n < 10 ^ k
      · obtain ⟨c, h1, h2, h3⟩ := ih hk
        exact ⟨c, by omega, h2, h3⟩
      · refine ⟨k + 1, Nat.le_refl _, hn, fun i hi => ?_⟩
        have := Nat.pow_le_pow_right (show 0 < 10 by decide) (show i ≤ k by omega)
        omega
  exact aux 20 (Nat.lt_trans h (by decide))
theorem pow_iff {n c i : Nat} (h1 : n < 10 ^ c) (h2 : ∀ i, i < c → 10 ^ i ≤ n) : 10 ^ i ≤ n ↔ i < c := by
  constructor
  · intro h
    by_cases g : i < c
    · exact g
    · have := Nat.pow_le_pow_right (show 0 < 10 by decide) (show c ≤ i by omega)
      omega
  · exact h2 i
theorem ten_iff (n m : Nat) : 10 ≤ n / 10 ^ m ↔ 10 ^ (m + 1) ≤ n := by
  rw [Nat.le_div_iff_mul_le (Nat.pow_pos (by decide)), Nat.pow_succ, Nat.mul_comm]
theorem ten_next (n m : Nat) : n / 10 ^ m / 10 = n / 10 ^ (m + 1) := by
  rw [Nat.div_div_eq_div_mul, Nat.pow_succ]

/-- neighbouring ranks of a cut -/
theorem cut_near {n k i : Nat} (hk : 0 < k) (hn : k ≤ n) : rnk i k n ≤ rnk (i + 1) k n ∧ (0 < i → n / k ≤ rnk (i + 1) k n - rnk i k n ∧ rnk (i + 1) k n - rnk i k n ≤ n / k + 1) ∧ (i = 0 → n / k ≤ rnk 1 k n ∧ rnk 1 k n ≤ n / k + 1) := by
  have hq := Nat.div_add_mod n k
  have hr := Nat.mod_lt n hk
  have q1 : 1 ≤ n / k := (Nat.le_div_iff_mul_le hk).2 (by omega)
  have u0 := clg_up (i * n) hk
  have u1 := clg_up ((i + 1) * n) hk
  have l1 : clg (i * n) k + n / k ≤ clg ((i + 1) * n) k := by
    have : clg (i * n) k ≤ clg ((i + 1) * n) k - n / k := by
      apply clg_le
      rw [Nat.sub_mul]
      rw [Nat.add_mul, Nat.one_mul] at u1
      rw [Nat.add_mul, Nat.one_mul]
      rw [Nat.mul_comm (n / k) k]
      omega
    have g : n / k ≤ clg ((i + 1) * n) k := by
      have e : k * (n / k) ≤ clg ((i + 1) * n) k * k := by
        rw [Nat.add_mul, Nat.one_mul] at u1
        rw [Nat.add_mul, Nat.one_mul]
        omega
      rw [Nat.mul_comm] at e
      exact Nat.le_of_mul_le_mul_right e hk
    omega
  have l2 : clg ((i + 1) * n) k ≤ clg (i * n) k + (n / k + 1) := by
    apply clg_le
    rw [Nat.add_mul (clg (i * n) k), Nat.add_mul (n / k) 1, Nat.add_mul i 1, Nat.one_mul, Nat.one_mul, Nat.mul_comm (n / k) k]
    omega
  have z : i = 0 → clg (i * n) k = 0 := by
    rintro rfl
    unfold clg
    rw [Nat.zero_mul, Nat.zero_mod, Nat.zero_div, if_pos rfl]
  have p : 0 < i → 1 ≤ clg (i * n) k := by
    intro hi
    rcases Nat.eq_zero_or_pos (clg (i * n) k) with e | e
    · rw [e, Nat.zero_mul] at u0
      have : 0 < i * n := Nat.mul_pos hi (by omega)
      omega
    · exact e
  unfold rnk
  refine ⟨by omega, fun hi => ?_, ?_⟩
  · have := p hi
    omega
  · rintro rfl
    have := z rfl
    rw [Nat.zero_add] at l1 l2
    rw [this] at l1 l2
    omega
theorem cut_rise {n k i : Nat} (hk : 0 < k) : rnk i k n ≤ rnk (i + 1) k n :=
  rnk_mono hk (Nat.mul_le_mul_right k (by omega))
end Go.Proofs.Ytbpfmjekpjfceaa
