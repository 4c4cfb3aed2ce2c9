/- RkMath, RkCode, RkRank, RkRef in one text. -/
import Derived.Test.YthfcfmnaiopogaaGreatWdAll

/- Parts of a whole as numbers: ceilings, floors, divisors, powers of ten. -/
namespace Go.Proofs.YthfcfmnaiopogaaGreat

/-- the least number that isn't below x / d -/
def clg (x d : Nat) : Nat := if x % d = 0 then x / d else x / d + 1
theorem clg_up (x : Nat) {d : Nat} (hd : 0 < d) : x ≤ clg x d * d := by
  have h := Nat.div_add_mod x d
  rw [Nat.mul_comm] at h
  unfold clg
  split
  · omega
  · have := Nat.mod_lt x hd
    rw [Nat.add_mul]
    omega
theorem clg_le {x d S : Nat} (h : x ≤ S * d) : clg x d ≤ S := by
  have e := Nat.div_add_mod x d
  rw [Nat.mul_comm] at e
  have hq : x / d ≤ S := Nat.div_le_of_le_mul (by rw [Nat.mul_comm]; exact h)
  unfold clg
  split
  · exact hq
  · rcases Nat.lt_or_ge (x / d) S with g | g
    · omega
    · have e2 : x / d = S := by omega
      rw [e2] at e
      omega
/-- a part's rank -/
def rnk (a d n : Nat) : Nat := max 1 (clg (a * n) d)
/-- a part's spot -/
def spt (a d n : Nat) : Nat := a * (2 * n) / d
theorem clg_all {a d n : Nat} (h : a ≤ d) : clg (a * n) d ≤ n := clg_le (by rw [Nat.mul_comm n d]; exact Nat.mul_le_mul_right n h)
theorem rnk_all {a d n : Nat} (h : a ≤ d) (hn : 0 < n) : 1 ≤ rnk a d n ∧ rnk a d n ≤ n := by
  have := clg_all (n := n) h
  unfold rnk
  omega
theorem rnk_zero (d n : Nat) : rnk 0 d n = 1 := by
  unfold rnk clg
  rw [Nat.zero_mul, Nat.zero_mod, Nat.zero_div, if_pos rfl]
  rfl
theorem rnk_full {d n : Nat} (hd : 0 < d) (hn : 0 < n) : rnk d d n = n := by
  unfold rnk clg
  rw [Nat.mul_mod_right, if_pos rfl, Nat.mul_div_cancel_left _ hd]
  omega
theorem quo_all {a d n : Nat} (h : a ≤ d) : a * n / d ≤ n :=
  Nat.div_le_of_le_mul (Nat.mul_le_mul_right n h)
theorem quo_part {a d n : Nat} (h : a ≤ d) (hr : a * n % d ≠ 0) : a * n / d + 1 ≤ n := by
  have := clg_all (n := n) h
  unfold clg at this
  rw [if_neg hr] at this
  exact this
theorem rnk_mono {a b c d n : Nat} (hd : 0 < d) (h : a * d ≤ c * b) : rnk a b n ≤ rnk c d n := by
  have e : clg (a * n) b ≤ clg (c * n) d := by
    apply clg_le
    have h1 := clg_up (c * n) hd
    have h2 : a * n * d ≤ clg (c * n) d * b * d := by
      calc a * n * d = a * d * n := by rw [Nat.mul_right_comm]
        _ ≤ c * b * n := Nat.mul_le_mul_right n h
        _ = c * n * b := by rw [Nat.mul_right_comm]
        _ ≤ clg (c * n) d * d * b := Nat.mul_le_mul_right b h1
        _ = clg (c * n) d * b * d := by rw [Nat.mul_right_comm]
    exact Nat.le_of_mul_le_mul_right h2 hd
  unfold rnk
  omega
theorem spt_mono {a b c d n : Nat} (hb : 0 < b) (hd : 0 < d) (h : a * d ≤ c * b) : spt a b n ≤ spt c d n := by
  unfold spt
  rw [Nat.le_div_iff_mul_le hd]
  have h1 := Nat.div_mul_le_self (a * (2 * n)) b
  have h2 : a * (2 * n) / b * d * b ≤ c * (2 * n) * b := by
    calc a * (2 * n) / b * d * b = a * (2 * n) / b * b * d := by rw [Nat.mul_right_comm]
      _ ≤ a * (2 * n) * d := Nat.mul_le_mul_right d h1
      _ = a * d * (2 * n) := by rw [Nat.mul_right_comm]
      _ ≤ c * b * (2 * n) := Nat.mul_le_mul_right (2 * n) h
      _ = c * (2 * n) * b := by rw [Nat.mul_right_comm]
  exact Nat.le_of_mul_le_mul_right h2 hb
theorem spt_all {a d n : Nat} (h : a ≤ d) : spt a d n ≤ 2 * n := quo_all h

/-- a step of Euclid's -/
theorem gcd_step (a b : Nat) : Nat.gcd b (a % b) = Nat.gcd a b := by
  rw [Nat.gcd_comm a b, Nat.gcd_rec b a, Nat.gcd_comm]
theorem least_same {a d : Nat} (hd : 0 < d) : a / Nat.gcd a d * d = a * (d / Nat.gcd a d) := by
  have hg : 0 < Nat.gcd a d := Nat.gcd_pos_of_pos_right _ hd
  obtain ⟨x, hx⟩ := Nat.gcd_dvd_left a d
  obtain ⟨y, hy⟩ := Nat.gcd_dvd_right a d
  have ex : a / Nat.gcd a d = x := Nat.div_eq_of_eq_mul_right hg hx
  have ey : d / Nat.gcd a d = y := Nat.div_eq_of_eq_mul_right hg hy
  rw [ex, ey]
  generalize Nat.gcd a d = g at hx hy
  subst hx hy
  rw [Nat.mul_left_comm, Nat.mul_assoc]
theorem least_apart {a d p : Nat} (hd : 0 < d) (hp : 2 ≤ p) (h1 : a / Nat.gcd a d % p = 0) (h2 : d / Nat.gcd a d % p = 0) : False := by
  have hg : 0 < Nat.gcd a d := Nat.gcd_pos_of_pos_right _ hd
  have hc : Nat.gcd (a / Nat.gcd a d) (d / Nat.gcd a d) = 1 := by
    rw [Nat.gcd_div (Nat.gcd_dvd_left a d) (Nat.gcd_dvd_right a d), Nat.div_self hg]
  have := Nat.dvd_gcd (Nat.dvd_of_mod_eq_zero h1) (Nat.dvd_of_mod_eq_zero h2)
  rw [hc] at this
  have := Nat.le_of_dvd (by decide) this
  omega
theorem least_times (a d : Nat) {k : Nat} (hk : 0 < k) : a * k / Nat.gcd (a * k) (d * k) = a / Nat.gcd a d ∧ d * k / Nat.gcd (a * k) (d * k) = d / Nat.gcd a d := by
  rw [Nat.gcd_mul_right]
  exact ⟨Nat.mul_div_mul_right _ _ hk, Nat.mul_div_mul_right _ _ hk⟩

/-- each number has as many digits as there are powers of ten that aren't above it -/
theorem pows (n : Nat) (h : n < 18446744073709551616) : ∃ c, c ≤ 20 ∧ n < 10 ^ c ∧ (∀ i, i < c → 10 ^ i ≤ n) := by
  have aux : ∀ k, n < 10 ^ k → ∃ c, c ≤ k ∧ n < 10 ^ c ∧ (∀ i, i < c → 10 ^ i ≤ n) := by
    intro k
    induction k with
    | zero => exact fun hn => ⟨0, Nat.le_refl _, hn, fun i hi => absurd hi (Nat.not_lt_zero _)⟩
    | succ k ih =>
      intro hn
      by_cases hk : n < 10 ^ k
      · obtain ⟨c, h1, h2, h3⟩ := ih hk
        exact ⟨c, by omega, h2, h3⟩
      · refine ⟨k + 1, Nat.le_refl _, hn, fun i hi => ?_⟩
        have := Nat.pow_le_pow_right (show 0 < 10 by decide) (show i ≤ k by omega)
        omega
  exact aux 20 (Nat.lt_trans h (by decide))
theorem pow_iff {n c i : Nat} (h1 : n < 10 ^ c) (h2 : ∀ i, i < c → 10 ^ i ≤ n) : 10 ^ i ≤ n ↔ i < c := by
  constructor
  · intro h
    by_cases g : i < c
    · exact g
    · have := Nat.pow_le_pow_right (show 0 < 10 by decide) (show c ≤ i by omega)
      omega
  · exact h2 i
theorem ten_iff (n m : Nat) : 10 ≤ n / 10 ^ m ↔ 10 ^ (m + 1) ≤ n := by
  rw [Nat.le_div_iff_mul_le (Nat.pow_pos (by decide)), Nat.pow_succ, Nat.mul_comm]
theorem ten_next (n m : Nat) : n / 10 ^ m / 10 = n / 10 ^ (m + 1) := by
  rw [Nat.div_div_eq_div_mul, Nat.pow_succ]

/-- neighbouring ranks of a cut -/
theorem cut_near {n k i : Nat} (hk : 0 < k) (hn : k ≤ n) : rnk i k n ≤ rnk (i + 1) k n ∧ (0 < i → n / k ≤ rnk (i + 1) k n - rnk i k n ∧ rnk (i + 1) k n - rnk i k n ≤ n / k + 1) ∧ (i = 0 → n / k ≤ rnk 1 k n ∧ rnk 1 k n ≤ n / k + 1) := by
  have hq := Nat.div_add_mod n k
  have hr := Nat.mod_lt n hk
  have q1 : 1 ≤ n / k := (Nat.le_div_iff_mul_le hk).2 (by omega)
  have u0 := clg_up (i * n) hk
  have u1 := clg_up ((i + 1) * n) hk
  have l1 : clg (i * n) k + n / k ≤ clg ((i + 1) * n) k := by
    have : clg (i * n) k ≤ clg ((i + 1) * n) k - n / k := by
      apply clg_le
      rw [Nat.sub_mul]
      rw [Nat.add_mul, Nat.one_mul] at u1
      rw [Nat.add_mul, Nat.one_mul]
      rw [Nat.mul_comm (n / k) k]
      omega
    have g : n / k ≤ clg ((i + 1) * n) k := by
      have e : k * (n / k) ≤ clg ((i + 1) * n) k * k := by
        rw [Nat.add_mul, Nat.one_mul] at u1
        rw [Nat.add_mul, Nat.one_mul]
        omega
      rw [Nat.mul_comm] at e
      exact Nat.le_of_mul_le_mul_right e hk
    omega
  have l2 : clg ((i + 1) * n) k ≤ clg (i * n) k + (n / k + 1) := by
    apply clg_le
    rw [Nat.add_mul (clg (i * n) k), Nat.add_mul (n / k) 1, Nat.add_mul i 1, Nat.one_mul, Nat.one_mul, Nat.mul_comm (n / k) k]
    omega
  have z : i = 0 → clg (i * n) k = 0 := by
    rintro rfl
    unfold clg
    rw [Nat.zero_mul, Nat.zero_mod, Nat.zero_div, if_pos rfl]
  have p : 0 < i → 1 ≤ clg (i * n) k := by
    intro hi
    rcases Nat.eq_zero_or_pos (clg (i * n) k) with e | e
    · rw [e, Nat.zero_mul] at u0
      have : 0 < i * n := Nat.mul_pos hi (by omega)
      omega
    · exact e
  unfold rnk
  refine ⟨by omega, fun hi => ?_, ?_⟩
  · have := p hi
    omega
  · rintro rfl
    have := z rfl
    rw [Nat.zero_add] at l1 l2
    rw [this] at l1 l2
    omega
theorem cut_rise {n k i : Nat} (hk : 0 < k) : rnk i k n ≤ rnk (i + 1) k n :=
  rnk_mono hk (Nat.mul_le_mul_right k (by omega))
end Go.Proofs.YthfcfmnaiopogaaGreat

/- What the landed functions of layer 11 do: parts, divisors, powers, ranks and spots. -/
namespace Go.Proofs.YthfcfmnaiopogaaGreat
open Go.RowKit

set_option maxRecDepth 100000 in
set_option maxHeartbeats 400000 in
theorem check_yes (a d : Nat) (w : World) (hd : 0 < d) (h : a ≤ d) :
    Calls Tryz.prog 107 #[.int .u64 (a : Int), .int .u64 (d : Int)] w fun e w' => e = .returned (.int .i64 0) ∧ Fr S0 w w' := by
  have hd0 : ((d : Int) == 0) = false := by rw [beq_eq_false_iff_ne]; omega
  have hh : decide (d < a) = false := decide_eq_false (by omega)
  clear hd h
  go_enter Tryz.func107, Tryz.ntmps107
  go_wp2
  go_ret
  exact ⟨rfl, Fr.refl _ _⟩

set_option maxRecDepth 100000 in
set_option maxHeartbeats 400000 in
theorem check_no (a d : Nat) (w : World) (h : d = 0 ∨ d < a) :
    Calls Tryz.prog 107 #[.int .u64 (a : Int), .int .u64 (d : Int)] w fun e w' => e = .returned (.int .i64 7) ∧ Fr S0 w w' := by
  by_cases h0 : d = 0
  · subst h0
    clear h
    go_enter Tryz.func107, Tryz.ntmps107
    go_wp2
    go_ret
    exact ⟨rfl, Fr.refl _ _⟩
  · have hd0 : ((d : Int) == 0) = false := by rw [beq_eq_false_iff_ne]; omega
    have hh : decide (d < a) = true := decide_eq_true (by omega)
    clear h h0
    go_enter Tryz.func107, Tryz.ntmps107
    go_wp2
    go_ret
    exact ⟨rfl, Fr.refl _ _⟩

set_option maxRecDepth 100000 in
set_option maxHeartbeats 400000 in
theorem divisor_any (a b : Nat) (w : World) :
    Calls Tryz.prog 108 #[.int .u64 (a : Int), .int .u64 (b : Int)] w fun e w' => e = .returned (.int .u64 (Nat.gcd a b : Nat)) ∧ Fr S0 w w' := by
  obtain ⟨G, hG⟩ : ∃ G, Nat.gcd a b = G := ⟨_, rfl⟩
  have HG := Lib.hid hG
  rw [hG]
  clear hG
  go_enter Tryz.func108, Tryz.ntmps108
  go_wp2
  go_loopw [0, 1] (fun x y wr => ∃ m n : Nat, x = .int .u64 (m : Int) ∧ y = .int .u64 (n : Int) ∧ Hid (Nat.gcd m n = G) ∧ Fr S0 w wr) (fun _ y _ => (intOf y).toNat)
  case atStart => exact ⟨a, b, rfl, rfl, HG, Fr.refl _ _⟩
  case round =>
    obtain ⟨m, n, rfl, rfl, hg, f⟩ := hrel
    by_cases h0 : n = 0
    · subst h0
      have hm := hg.out
      rw [Nat.gcd_zero_right] at hm
      subst hm
      clear hg
      go_wp2
      go_ret
      exact ⟨rfl, f⟩
    · have hn0 : ((n : Int) != 0) = true := by rw [bne_iff_ne]; omega
      have hne : (n : Int) ≠ 0 := by omega
      have hlt : m % n < n := Nat.mod_lt _ (by omega)
      have hg2 : Hid (Nat.gcd n (m % n) = G) := Lib.hid (by rw [gcd_step]; exact hg.out)
      have hmod : (m : Int) % (n : Int) = ((m % n : Nat) : Int) := by omega
      obtain ⟨R, hR⟩ : ∃ R, m % n = R := ⟨_, rfl⟩
      rw [hR] at hlt hg2 hmod
      have HL := Lib.hid hlt
      have HM := Lib.hid hmod
      clear hR h0 hg hlt hmod
      go_wp2_with fail
      go_quiet (fail)
      go_wp2
      go_roundw
      case rel => exact ⟨n, R, rfl, congrArg (Value.int .u64) HM.out, hg2, f.trans0 (Fr.drewN _ _ _)⟩
      case measure => have := HL.out; have := HM.out; simp [intOf]; omega

set_option maxRecDepth 100000 in
set_option maxHeartbeats 400000 in
theorem least_no (a d : Nat) (w : World) (h : d = 0 ∨ d < a) :
    Calls Tryz.prog 69 #[.int .u64 (a : Int), .int .u64 (d : Int)] w fun e w' => e = .returned (.tuple #[.int .u64 0, .int .u64 0]) ∧ Fr S0 w w' := by
  have HC := Lib.hid (fun W => check_no a d W h)
  clear h
  go_enter Tryz.func69, Tryz.ntmps69
  go_wp2_with fail
  refine (HC.out _).mono ?_
  rintro e w1 ⟨rfl, f1⟩
  go_wp2
  go_ret2
  exact ⟨rfl, f1⟩

set_option maxRecDepth 100000 in
set_option maxHeartbeats 400000 in
theorem least_yes (a d : Nat) (w : World) (hd : 0 < d) (h : a ≤ d) (h64 : d < 18446744073709551616) :
    Calls Tryz.prog 69 #[.int .u64 (a : Int), .int .u64 (d : Int)] w fun e w' => e = .returned (.tuple #[.int .u64 (a / Nat.gcd a d : Nat), .int .u64 (d / Nat.gcd a d : Nat)]) ∧ Fr S0 w w' := by
  have HC := Lib.hid (fun W => check_yes a d W hd h)
  have HD := Lib.hid (fun W => divisor_any a d W)
  have hg : 0 < Nat.gcd a d := Nat.gcd_pos_of_pos_right _ hd
  obtain ⟨G, hG⟩ : ∃ G, Nat.gcd a d = G := ⟨_, rfl⟩
  rw [hG] at HD hg ⊢
  have hne : (G : Int) ≠ 0 := by omega
  have q1 : (a : Int) / (G : Int) = ((a / G : Nat) : Int) := by omega
  have q2 : (d : Int) / (G : Int) = ((d / G : Nat) : Int) := by omega
  have b1 : a / G < 18446744073709551616 := by have := Nat.div_le_self a G; omega
  have b2 : d / G < 18446744073709551616 := by have := Nat.div_le_self d G; omega
  obtain ⟨A1, hA1⟩ : ∃ A1, a / G = A1 := ⟨_, rfl⟩
  obtain ⟨A2, hA2⟩ : ∃ A2, d / G = A2 := ⟨_, rfl⟩
  rw [hA1] at q1 b1 ⊢
  rw [hA2] at q2 b2 ⊢
  clear hA1 hA2 hG h hd hg h64
  go_enter Tryz.func69, Tryz.ntmps69
  go_wp2_with fail
  refine (HC.out _).mono ?_
  rintro e w1 ⟨rfl, f1⟩
  go_wp2_with fail
  refine (HD.out _).mono ?_
  rintro e w2 ⟨rfl, f2⟩
  go_wp2_with fail
  go_quiet (fail)
  go_wp2
  go_ret2
  exact ⟨rfl, (f1.trans0 f2).trans0 (Fr.drewN _ _ _)⟩

set_option maxRecDepth 100000 in
set_option maxHeartbeats 400000 in
theorem power_no (d : Int) (w : World) (h : d < 0 ∨ 19 < d) :
    Calls Tryz.prog 153 #[.int .i64 d] w fun e w' => e = .returned (.tuple #[.int .u64 0, .int .i64 1]) ∧ Fr S0 w w' := by
  by_cases h0 : d < 0
  · clear h
    go_enter Tryz.func153, Tryz.ntmps153
    go_wp2
    go_ret2
    exact ⟨rfl, Fr.refl _ _⟩
  · have h1 : d > 19 := by omega
    clear h
    go_enter Tryz.func153, Tryz.ntmps153
    go_wp2
    go_ret2
    exact ⟨rfl, Fr.refl _ _⟩

theorem pow_step (i : Nat) (h : i < 19) : 10 ^ i < 1000000000000000001 := by
  have := Nat.pow_le_pow_right (show 0 < 10 by decide) (show i ≤ 18 by omega)
  have e : (10 : Nat) ^ 18 = 1000000000000000000 := by decide
  omega

set_option maxRecDepth 100000 in
set_option maxHeartbeats 400000 in
theorem power_yes (d : Nat) (w : World) (h : d ≤ 19) :
    Calls Tryz.prog 153 #[.int .i64 (d : Int)] w fun e w' => e = .returned (.tuple #[.int .u64 (10 ^ d : Nat), .int .i64 0]) ∧ Fr S0 w w' := by
  obtain ⟨T, hT⟩ : ∃ T, 10 ^ d = T := ⟨_, rfl⟩
  have HT := Lib.hid hT
  rw [hT]
  clear hT
  have h1 : decide (19 < d) = false := decide_eq_false (by omega)
  go_enter Tryz.func153, Tryz.ntmps153
  go_wp2
  go_loopw [4, 12] (fun x y wr => ∃ m i : Nat, x = .int .u64 (m : Int) ∧ y = .int .i64 (i : Int) ∧ i ≤ d ∧ Hid (10 ^ i = m) ∧ w = wr) (fun _ y _ => d - (intOf y).toNat)
  case atStart => exact ⟨1, 0, rfl, rfl, by omega, Lib.hid rfl, rfl⟩
  case round =>
    obtain ⟨m, i, rfl, rfl, hi, hm, rfl⟩ := hrel
    by_cases hlt : (i : Int) < (d : Int)
    · have hs := pow_step i (by omega)
      have HN : Hid (10 ^ (i + 1) = m * 10) := Lib.hid (by rw [Nat.pow_succ, hm.out])
      rw [hm.out] at hs
      clear hm
      go_wp2
      go_roundw
      case rel => exact ⟨m * 10, i + 1, by go_num, by go_num, by omega, HN, by trivial⟩
      case measure => simp [intOf]; omega
    · obtain rfl : i = d := by omega
      have e := hm.out
      rw [HT.out] at e
      subst e
      clear hm HT
      go_wp2
      go_ret2
      exact ⟨rfl, Fr.refl _ _⟩

end Go.Proofs.YthfcfmnaiopogaaGreat

/- What the landed functions of layer 11 do: ranks and spots. -/
namespace Go.Proofs.YthfcfmnaiopogaaGreat
open Go.RowKit

/-- the ceiling that a rank stands on -/
theorem ceil_part (a d n : Nat) (w : World) (hn : n < 18446744073709551616) (h64 : d < 18446744073709551616) (hd : 0 < d) (h : a ≤ d) :
    Calls Tryz.prog 165 #[.int .u64 (a : Int), .int .u64 (n : Int), .int .u64 (d : Int)] w fun e w' => e = .returned (.tuple #[.int .u64 (clg (a * n) d : Nat), .int .i64 0]) ∧ Fr S0 w w' := by
  have hc := ceil_any a n d w (by omega) hn h64
  have hq := quo_all (n := n) h
  unfold optV ceilR at hc
  rw [if_neg (by omega)] at hc
  unfold clg
  by_cases hr : a * n % d = 0
  · rw [if_pos hr] at hc ⊢
    exact hc
  · have := quo_part (n := n) h hr
    rw [if_neg hr, if_neg (by omega)] at hc
    rw [if_neg hr]
    exact hc

set_option maxRecDepth 100000 in
set_option maxHeartbeats 400000 in
theorem first_any (a d n : Nat) (w : World) (hn : n < 18446744073709551616) (h64 : d < 18446744073709551616) (hd : 0 < d) (h : a ≤ d) :
    Calls Tryz.prog 155 #[.int .u64 (a : Int), .int .u64 (d : Int), .int .u64 (n : Int)] w fun e w' => e = .returned (.tuple #[.int .u64 (rnk a d n : Nat), .int .i64 0]) ∧ Fr S0 w w' := by
  have HC := Lib.hid (fun W => ceil_part a d n W hn h64 hd h)
  unfold rnk
  obtain ⟨C, hC⟩ : ∃ C, clg (a * n) d = C := ⟨_, rfl⟩
  rw [hC] at HC ⊢
  have em : max (C : Int) 1 = ((max 1 C : Nat) : Int) := by omega
  obtain ⟨M, hM⟩ : ∃ M, max 1 C = M := ⟨_, rfl⟩
  rw [hM] at em ⊢
  clear hC hM hn h64 hd h
  go_enter Tryz.func155, Tryz.ntmps155
  go_wp2_with fail
  refine (HC.out _).mono ?_
  rintro e w1 ⟨rfl, f1⟩
  go_wp2
  go_ret2
  exact ⟨rfl, f1⟩

section
variable (f : Nat) (a d n : Nat) (w : World)
set_option maxRecDepth 100000 in
set_option maxHeartbeats 400000 in
theorem among_no (h : d = 0 ∨ d < a) :
    Calls Tryz.prog 154 #[.int .u64 (a : Int), .int .u64 (d : Int), .int .u64 (n : Int), .func (.func f) #[] #[]] w fun e w' => e = .returned (.tuple #[.int .u64 0, .int .i64 7]) ∧ Fr S0 w w' := by
  have HC := Lib.hid (fun W => check_no a d W h)
  clear h
  go_enter Tryz.func154, Tryz.ntmps154
  go_wp2_with fail
  refine (HC.out _).mono ?_
  rintro e w1 ⟨rfl, f1⟩
  go_wp2
  go_ret2
  exact ⟨rfl, f1⟩
set_option maxRecDepth 100000 in
set_option maxHeartbeats 400000 in
theorem among_none (hd : 0 < d) (h : a ≤ d) :
    Calls Tryz.prog 154 #[.int .u64 (a : Int), .int .u64 (d : Int), .int .u64 0, .func (.func f) #[] #[]] w fun e w' => e = .returned (.tuple #[.int .u64 0, .int .i64 8]) ∧ Fr S0 w w' := by
  have HC := Lib.hid (fun W => check_yes a d W hd h)
  clear h hd
  go_enter Tryz.func154, Tryz.ntmps154
  go_wp2_with fail
  refine (HC.out _).mono ?_
  rintro e w1 ⟨rfl, f1⟩
  go_wp2
  go_ret2
  exact ⟨rfl, f1⟩
end

set_option maxRecDepth 100000 in
set_option maxHeartbeats 400000 in
theorem among_first (a d n : Nat) (w : World) (hn : n < 18446744073709551616) (h64 : d < 18446744073709551616) (n0 : 0 < n) (hd : 0 < d) (h : a ≤ d) :
    Calls Tryz.prog 154 #[.int .u64 (a : Int), .int .u64 (d : Int), .int .u64 (n : Int), .func (.func 155) #[] #[]] w fun e w' => e = .returned (.tuple #[.int .u64 (rnk a d n : Nat), .int .i64 0]) ∧ Fr S0 w w' := by
  have HC := Lib.hid (fun W => check_yes a d W hd h)
  have HT := Lib.hid (fun W => first_any a d n W hn h64 hd h)
  have hn0 : ((n : Int) == 0) = false := by rw [beq_eq_false_iff_ne]; omega
  obtain ⟨R, hR⟩ : ∃ R, rnk a d n = R := ⟨_, rfl⟩
  rw [hR] at HT ⊢
  clear h hd h64 hR
  go_enter Tryz.func154, Tryz.ntmps154
  go_wp2_with fail
  refine (HC.out _).mono ?_
  rintro e w1 ⟨rfl, f1⟩
  go_wp2_with fail
  refine (HT.out _).mono ?_
  rintro e w2 ⟨rfl, f2⟩
  go_wp2
  go_ret2
  exact ⟨rfl, f1.trans0 f2⟩

/-- what a rank's call tells -/
def rkR (a d n : Nat) : Nat := if d = 0 ∨ d < a then 0 else if n = 0 then 0 else rnk a d n
def rkE (a d n : Nat) : Nat := if d = 0 ∨ d < a then 7 else if n = 0 then 8 else 0
/-- what a spot's call tells -/
def spR (a d n : Nat) : Nat := if d = 0 ∨ d < a then 0 else if n = 0 then 0 else if 4611686018427387904 < n then 0 else spt a d n
def spE (a d n : Nat) : Nat := if d = 0 ∨ d < a then 7 else if n = 0 then 8 else if 4611686018427387904 < n then 6 else 0

theorem among_rank (a d n : Nat) (w : World) (hn : n < 18446744073709551616) (h64 : d < 18446744073709551616) :
    Calls Tryz.prog 154 #[.int .u64 (a : Int), .int .u64 (d : Int), .int .u64 (n : Int), .func (.func 155) #[] #[]] w fun e w' => e = .returned (.tuple #[.int .u64 (rkR a d n : Nat), .int .i64 (rkE a d n : Nat)]) ∧ Fr S0 w w' := by
  unfold rkR rkE
  by_cases h : d = 0 ∨ d < a
  · rw [if_pos h, if_pos h]
    exact among_no _ a d n w h
  · rw [if_neg h, if_neg h]
    by_cases h0 : n = 0
    · rw [if_pos h0, if_pos h0]
      subst h0
      exact among_none _ a d w (by omega) (by omega)
    · rw [if_neg h0, if_neg h0]
      exact among_first a d n w hn h64 (by omega) (by omega) (by omega)
set_option maxRecDepth 100000 in
set_option maxHeartbeats 400000 in
theorem rank_any (a d n : Nat) (w : World) (hn : n < 18446744073709551616) (h64 : d < 18446744073709551616) :
    Calls Tryz.prog 133 #[.int .u64 (a : Int), .int .u64 (d : Int), .int .u64 (n : Int)] w fun e w' => e = .returned (.tuple #[.int .u64 (rkR a d n : Nat), .int .i64 (rkE a d n : Nat)]) ∧ Fr S0 w w' := by
  have HT := Lib.hid (fun W => among_rank a d n W hn h64)
  obtain ⟨R, hR⟩ : ∃ R, rkR a d n = R := ⟨_, rfl⟩
  obtain ⟨E, hE⟩ : ∃ E, rkE a d n = E := ⟨_, rfl⟩
  rw [hR, hE] at HT ⊢
  clear hR hE hn h64
  go_enter Tryz.func133, Tryz.ntmps133
  go_wp2_with fail
  refine (HT.out _).mono ?_
  rintro e w1 ⟨rfl, f1⟩
  go_wp2
  go_ret2
  exact ⟨rfl, f1⟩

theorem rank_yes (a d n : Nat) (w : World) (hn : n < 18446744073709551616) (h64 : d < 18446744073709551616) (n0 : 0 < n) (hd : 0 < d) (h : a ≤ d) :
    Calls Tryz.prog 133 #[.int .u64 (a : Int), .int .u64 (d : Int), .int .u64 (n : Int)] w fun e w' => e = .returned (.tuple #[.int .u64 (rnk a d n : Nat), .int .i64 0]) ∧ Fr S0 w w' := by
  have h1 := rank_any a d n w hn h64
  unfold rkR rkE at h1
  rw [if_neg (by omega), if_neg (by omega), if_neg (by omega), if_neg (by omega)] at h1
  exact h1
end Go.Proofs.YthfcfmnaiopogaaGreat

/- What the references of layer 11 do. -/
namespace Go.Proofs.YthfcfmnaiopogaaGreat
open Go.RowKit

def ckN (a d : Nat) : Nat := if d = 0 ∨ d < a then 7 else 0
set_option maxRecDepth 100000 in
set_option maxHeartbeats 400000 in
theorem rcheck_any (a d : Nat) (w : World) :
    Calls Tryz.prog 66 #[.int .u64 (a : Int), .int .u64 (d : Int)] w fun e w' => e = .returned (.int .i64 (ckN a d : Nat)) ∧ Fr S0 w w' := by
  unfold ckN
  by_cases h0 : d = 0
  · subst h0
    rw [if_pos (.inl rfl)]
    go_enter Tryz.func66, Tryz.ntmps66
    go_wp2
    go_ret
    exact ⟨rfl, Fr.refl _ _⟩
  · have hd0 : ((d : Int) == 0) = false := by rw [beq_eq_false_iff_ne]; omega
    by_cases h : d < a
    · rw [if_pos (.inr h)]
      have hh : decide (d < a) = true := decide_eq_true h
      clear h h0
      go_enter Tryz.func66, Tryz.ntmps66
      go_wp2
      go_ret
      exact ⟨rfl, Fr.refl _ _⟩
    · rw [if_neg (by omega)]
      have hh : decide (d < a) = false := decide_eq_false h
      clear h h0
      go_enter Tryz.func66, Tryz.ntmps66
      go_wp2
      go_ret
      exact ⟨rfl, Fr.refl _ _⟩
theorem check_any (a d : Nat) (w : World) :
    Calls Tryz.prog 107 #[.int .u64 (a : Int), .int .u64 (d : Int)] w fun e w' => e = .returned (.int .i64 (ckN a d : Nat)) ∧ Fr S0 w w' := by
  unfold ckN
  by_cases h : d = 0 ∨ d < a
  · rw [if_pos h]
    exact check_no a d w h
  · rw [if_neg h]
    exact check_yes a d w (by omega) (by omega)

/-- which one of two fractions is more -/
def cmpF (a b c d : Nat) : Int := if b = 0 ∨ d = 0 then 0 else cmpI (a * d) (c * b)
set_option maxRecDepth 100000 in
set_option maxHeartbeats 400000 in
theorem rcmpp_zero (a b c d : Nat) (w : World) (h : b = 0 ∨ d = 0) :
    Calls Tryz.prog 25 #[.int .u64 (a : Int), .int .u64 (b : Int), .int .u64 (c : Int), .int .u64 (d : Int)] w fun e w' => e = .returned (.int .i64 0) ∧ Fr S0 w w' := by
  by_cases h0 : b = 0
  · subst h0
    clear h
    go_enter Tryz.func25, Tryz.ntmps25
    go_wp2
    go_ret
    exact ⟨rfl, Fr.refl _ _⟩
  · have hb0 : ((b : Int) == 0) = false := by rw [beq_eq_false_iff_ne]; omega
    obtain rfl : d = 0 := by omega
    clear h h0
    go_enter Tryz.func25, Tryz.ntmps25
    go_wp2
    go_ret
    exact ⟨rfl, Fr.refl _ _⟩

theorem prod_128 {a b : Nat} (ha : a < 18446744073709551616) (hb : b < 18446744073709551616) : a * b < 340282366920938463463374607431768211456 := by
  have := Nat.mul_le_mul (show a ≤ 18446744073709551615 by omega) (show b ≤ 18446744073709551615 by omega)
  omega
theorem cmpr_eq (x y : Nat) : cmpR x y = cmpI x y := rfl
set_option maxRecDepth 100000 in
set_option maxHeartbeats 1000000 in
theorem rcmpf_any (a b c d : Nat) (w : World) (ha : a < 18446744073709551616) (hb : b < 18446744073709551616) (hc : c < 18446744073709551616) (hd : d < 18446744073709551616) :
    Calls Tryz.prog 25 #[.int .u64 (a : Int), .int .u64 (b : Int), .int .u64 (c : Int), .int .u64 (d : Int)] w fun e w' => e = .returned (.int .i64 (cmpF a b c d)) ∧ Fr S0 w w' := by
  unfold cmpF
  by_cases h : b = 0 ∨ d = 0
  · rw [if_pos h]
    exact rcmpp_zero a b c d w h
  · rw [if_neg h]
    have hb0 : ((b : Int) == 0) = false := by rw [beq_eq_false_iff_ne]; omega
    have hd0 : ((d : Int) == 0) = false := by rw [beq_eq_false_iff_ne]; omega
    have HM1 := Lib.hid (fun W => rmul_any a d W ha hd)
    have HM2 := Lib.hid (fun W => rmul_any c b W hc hb)
    have HB := Lib.hid (And.intro (prod_128 ha hd) (prod_128 hc hb))
    obtain ⟨X, hX⟩ : ∃ X, a * d = X := ⟨_, rfl⟩
    obtain ⟨Y, hY⟩ : ∃ Y, c * b = Y := ⟨_, rfl⟩
    rw [hX] at HM1 HB ⊢
    rw [hY] at HM2 HB ⊢
    have HC := Lib.hid (fun p q c d W h1 h2 => rcmp_any p q c d X Y W h1 h2 HB.out.1 HB.out.2)
    rw [← cmpr_eq]
    obtain ⟨R, hR⟩ : ∃ R, cmpR X Y = R := ⟨_, rfl⟩
    rw [hR] at HC ⊢
    clear hX hY hR ha hb hc hd h HB
    go_enter Tryz.func25, Tryz.ntmps25
    go_wp2_with fail
    refine (HM1.out _).mono ?_
    rintro e w1 ⟨v1, rfl, p1, c1, rfl, d1, f1⟩
    go_wp2_with fail
    refine (HM2.out _).mono ?_
    rintro e w2 ⟨v2, rfl, p2, c2, rfl, d2, f2⟩
    have D1 := Lib.hid (d1.fr0 f2)
    have D2 := Lib.hid d2
    clear d1 d2
    go_wp2_with fail
    refine (HC.out _ _ _ _ _ D1.out D2.out).mono ?_
    rintro e w3 ⟨rfl, n3, rfl⟩
    go_wp2
    go_ret
    exact ⟨rfl, (f1.trans0 f2).trans0 (Fr.drewN _ _ _)⟩

section
variable (a d n : Nat) (w : World)
set_option maxRecDepth 100000 in
set_option maxHeartbeats 400000 in
theorem rrank_no (h : d = 0 ∨ d < a) :
    Calls Tryz.prog 21 #[.int .u64 (a : Int), .int .u64 (d : Int), .int .u64 (n : Int)] w fun e w' => e = .returned (.tuple #[.int .u64 0, .int .i64 7]) ∧ Fr S0 w w' := by
  have HC := Lib.hid (fun W => rcheck_any a d W)
  rw [show ckN a d = 7 by unfold ckN; exact if_pos h] at HC
  clear h
  go_enter Tryz.func21, Tryz.ntmps21
  go_wp2_with fail
  refine (HC.out _).mono ?_
  rintro e w1 ⟨rfl, f1⟩
  go_wp2
  go_ret2
  exact ⟨rfl, f1⟩
set_option maxRecDepth 100000 in
set_option maxHeartbeats 400000 in
theorem rrank_none (hd : 0 < d) (h : a ≤ d) :
    Calls Tryz.prog 21 #[.int .u64 (a : Int), .int .u64 (d : Int), .int .u64 0] w fun e w' => e = .returned (.tuple #[.int .u64 0, .int .i64 8]) ∧ Fr S0 w w' := by
  have HC := Lib.hid (fun W => rcheck_any a d W)
  rw [show ckN a d = 0 by unfold ckN; exact if_neg (by omega)] at HC
  clear h hd
  go_enter Tryz.func21, Tryz.ntmps21
  go_wp2_with fail
  refine (HC.out _).mono ?_
  rintro e w1 ⟨rfl, f1⟩
  go_wp2
  go_ret2
  exact ⟨rfl, f1⟩
set_option maxRecDepth 100000 in
set_option maxHeartbeats 1000000 in
theorem rrank_yes (hn : n < 18446744073709551616) (h64 : d < 18446744073709551616) (n0 : 0 < n) (hd : 0 < d) (h : a ≤ d) :
    Calls Tryz.prog 21 #[.int .u64 (a : Int), .int .u64 (d : Int), .int .u64 (n : Int)] w fun e w' => e = .returned (.tuple #[.int .u64 (rnk a d n : Nat), .int .i64 0]) ∧ Fr S0 w w' := by
  have HC := Lib.hid (fun W => rcheck_any a d W)
  rw [show ckN a d = 0 by unfold ckN; exact if_neg (by omega)] at HC
  have hq := quo_all (n := n) h
  have hp := quo_part (n := n) h
  have HM := Lib.hid (fun W => rmuldiv_yes a n d W (by omega) hn h64 hd (by omega))
  have hn0 : ((n : Int) == 0) = false := by rw [beq_eq_false_iff_ne]; omega
  unfold rnk clg
  obtain ⟨Q, hQ⟩ : ∃ Q, a * n / d = Q := ⟨_, rfl⟩
  obtain ⟨R, hR⟩ : ∃ R, a * n % d = R := ⟨_, rfl⟩
  rw [hQ, hR] at HM hp ⊢
  rw [hQ] at hq
  clear hQ hR h hd h64
  by_cases r0 : R = 0
  · rw [if_pos r0]
    subst r0
    by_cases q0 : Q = 0
    · subst q0
      rw [show max 1 0 = 1 by decide]
      clear hp hq
      go_enter Tryz.func21, Tryz.ntmps21
      go_wp2_with fail
      refine (HC.out _).mono ?_
      rintro e w1 ⟨rfl, f1⟩
      go_wp2_with fail
      refine (HM.out _).mono ?_
      rintro e w2 ⟨rfl, f2⟩
      go_wp2
      go_ret2
      exact ⟨rfl, f1.trans0 f2⟩
    · rw [show max 1 Q = Q by omega]
      have q1 : ((Q : Int) == 0) = false := by rw [beq_eq_false_iff_ne]; omega
      clear hp hq q0
      go_enter Tryz.func21, Tryz.ntmps21
      go_wp2_with fail
      refine (HC.out _).mono ?_
      rintro e w1 ⟨rfl, f1⟩
      go_wp2_with fail
      refine (HM.out _).mono ?_
      rintro e w2 ⟨rfl, f2⟩
      go_wp2
      go_ret2
      exact ⟨rfl, f1.trans0 f2⟩
  · rw [if_neg r0]
    have hQn := hp r0
    have r1 : decide (0 < R) = true := decide_eq_true (by omega)
    rw [show max 1 (Q + 1) = Q + 1 by omega]
    have q2 : Q + 1 < 18446744073709551616 := by omega
    clear hp hq r0 hQn hn
    go_enter Tryz.func21, Tryz.ntmps21
    go_wp2_with fail
    refine (HC.out _).mono ?_
    rintro e w1 ⟨rfl, f1⟩
    go_wp2_with fail
    refine (HM.out _).mono ?_
    rintro e w2 ⟨rfl, f2⟩
    go_wp2
    go_ret2
    exact ⟨rfl, f1.trans0 f2⟩
theorem rrank_any (hn : n < 18446744073709551616) (h64 : d < 18446744073709551616) :
    Calls Tryz.prog 21 #[.int .u64 (a : Int), .int .u64 (d : Int), .int .u64 (n : Int)] w fun e w' => e = .returned (.tuple #[.int .u64 (rkR a d n : Nat), .int .i64 (rkE a d n : Nat)]) ∧ Fr S0 w w' := by
  unfold rkR rkE
  by_cases h : d = 0 ∨ d < a
  · rw [if_pos h, if_pos h]
    exact rrank_no a d n w h
  · rw [if_neg h, if_neg h]
    by_cases h0 : n = 0
    · rw [if_pos h0, if_pos h0]
      subst h0
      exact rrank_none a d w (by omega) (by omega)
    · rw [if_neg h0, if_neg h0]
      exact rrank_yes a d n w hn h64 (by omega) (by omega) (by omega)

end

end Go.Proofs.YthfcfmnaiopogaaGreat
