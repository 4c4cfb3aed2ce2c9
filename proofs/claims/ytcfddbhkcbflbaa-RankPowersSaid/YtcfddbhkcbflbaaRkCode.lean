/- What the landed functions of layer 11 do: parts, divisors, powers, ranks and spots. -/
import Derived.Test.YtcfddbhkcbflbaaWdCode
import Derived.Test.YtcfddbhkcbflbaaRkMath
namespace Go.Proofs.Ytcfddbhkcbflbaa
open Go.RowKit

set_option maxRecDepth 100000 in
set_option maxHeartbeats 400000 in
theorem check_yes (a d : Nat) (w : World) (hd : 0 < d) (h : a ≤ d) :
    Calls Try.prog 14 #[.int .u64 (a : Int), .int .u64 (d : Int)] w fun e w' => e = .returned (.int .i64 0) ∧ Fr S0 w w' := by
  have hd0 : ((d : Int) == 0) = false := by rw [beq_eq_false_iff_ne]; omega
  have hh : decide (d < a) = false := decide_eq_false (by omega)
  clear hd h
  go_enter Try.func14, Try.ntmps14
  go_wp2
  go_ret
  exact ⟨rfl, Fr.refl _ _⟩

set_option maxRecDepth 100000 in
set_option maxHeartbeats 400000 in
theorem check_no (a d : Nat) (w : World) (h : d = 0 ∨ d < a) :
    Calls Try.prog 14 #[.int .u64 (a : Int), .int .u64 (d : Int)] w fun e w' => e = .returned (.int .i64 7) ∧ Fr S0 w w' := by
  by_cases h0 : d = 0
  · subst h0
    clear h
    go_enter Try.func14, Try.ntmps14
    go_wp2
    go_ret
    exact ⟨rfl, Fr.refl _ _⟩
  · have hd0 : ((d : Int) == 0) = false := by rw [beq_eq_false_iff_ne]; omega
    have hh : decide (d < a) = true := decide_eq_true (by omega)
    clear h h0
    go_enter Try.func14, Try.ntmps14
    go_wp2
    go_ret
    exact ⟨rfl, Fr.refl _ _⟩

set_option maxRecDepth 100000 in
set_option maxHeartbeats 400000 in
theorem cmpp_zero (a b c d : Nat) (w : World) (h : b = 0 ∨ d = 0) :
    Calls Try.prog 16 #[.int .u64 (a : Int), .int .u64 (b : Int), .int .u64 (c : Int), .int .u64 (d : Int)] w fun e w' => e = .returned (.int .i64 0) ∧ Fr S0 w w' := by
  by_cases h0 : b = 0
  · subst h0
    clear h
    go_enter Try.func16, Try.ntmps16
    go_wp2
    go_ret
    exact ⟨rfl, Fr.refl _ _⟩
  · have hb0 : ((b : Int) == 0) = false := by rw [beq_eq_false_iff_ne]; omega
    obtain rfl : d = 0 := by omega
    clear h h0
    go_enter Try.func16, Try.ntmps16
    go_wp2
    go_ret
    exact ⟨rfl, Fr.refl _ _⟩

set_option maxRecDepth 100000 in
set_option maxHeartbeats 1000000 in
theorem cmpp_any (a b c d : Nat) (w : World) (ha : a < 18446744073709551616) (hb : b < 18446744073709551616) (hc : c < 18446744073709551616) (hd : d < 18446744073709551616) (b0 : 0 < b) (d0 : 0 < d) :
    Calls Try.prog 16 #[.int .u64 (a : Int), .int .u64 (b : Int), .int .u64 (c : Int), .int .u64 (d : Int)] w fun e w' => e = .returned (.int .i64 (cmpI (a * d) (c * b))) ∧ Fr S0 w w' := by
  have hb0 : ((b : Int) == 0) = false := by rw [beq_eq_false_iff_ne]; omega
  have hd0 : ((d : Int) == 0) = false := by rw [beq_eq_false_iff_ne]; omega
  have HM1 := Lib.hid (fun W => mul_any a d W ha hd)
  have HM2 := Lib.hid (fun W => mul_any c b W hc hb)
  have HC := Lib.hid (fun W => cmp_any (a * d / 18446744073709551616) (a * d % 18446744073709551616) (c * b / 18446744073709551616) (c * b % 18446744073709551616) W (mod_word _) (mod_word _))
  unfold cmpW at HC
  rw [Nat.div_add_mod' (a * d), Nat.div_add_mod' (c * b)] at HC
  obtain ⟨H1, e1⟩ : ∃ H, a * d / 18446744073709551616 = H := ⟨_, rfl⟩
  obtain ⟨L1, e2⟩ : ∃ H, a * d % 18446744073709551616 = H := ⟨_, rfl⟩
  obtain ⟨H2, e3⟩ : ∃ H, c * b / 18446744073709551616 = H := ⟨_, rfl⟩
  obtain ⟨L2, e4⟩ : ∃ H, c * b % 18446744073709551616 = H := ⟨_, rfl⟩
  rw [e1, e2] at HM1
  rw [e3, e4] at HM2
  rw [e1, e2, e3, e4] at HC
  obtain ⟨R, hR⟩ : ∃ R, cmpI (a * d) (c * b) = R := ⟨_, rfl⟩
  rw [hR] at HC ⊢
  clear e1 e2 e3 e4 ha hb hc hd b0 d0 hR
  go_enter Try.func16, Try.ntmps16
  go_wp2_with fail
  refine (HM1.out _).mono ?_
  rintro e w1 ⟨rfl, f1⟩
  go_wp2_with fail
  refine (HM2.out _).mono ?_
  rintro e w2 ⟨rfl, f2⟩
  unfold nv
  go_wp2_with fail
  refine (HC.out _).mono ?_
  rintro e w3 ⟨rfl, f3⟩
  go_wp2
  go_ret
  exact ⟨rfl, (f1.trans0 f2).trans0 f3⟩

set_option maxRecDepth 100000 in
set_option maxHeartbeats 400000 in
theorem divisor_any (a b : Nat) (w : World) :
    Calls Try.prog 29 #[.int .u64 (a : Int), .int .u64 (b : Int)] w fun e w' => e = .returned (.int .u64 (Nat.gcd a b : Nat)) ∧ Fr S0 w w' := by
  obtain ⟨G, hG⟩ : ∃ G, Nat.gcd a b = G := ⟨_, rfl⟩
  have HG := Lib.hid hG
  rw [hG]
  clear hG
  go_enter Try.func29, Try.ntmps29
  go_wp2
  go_loopw [0, 1] (fun x y wr => ∃ m n : Nat, x = .int .u64 (m : Int) ∧ y = .int .u64 (n : Int) ∧ Hid (Nat.gcd m n = G) ∧ Fr S0 w wr) (fun _ y _ => (intOf y).toNat)
  case atStart => exact ⟨a, b, rfl, rfl, HG, Fr.refl _ _⟩
  case round =>
    obtain ⟨m, n, rfl, rfl, hg, f⟩ := hrel
    by_cases h0 : n = 0
    · subst h0
      have hm := hg.out
      rw [Nat.gcd_zero_right] at hm
      subst hm
      clear hg
      go_wp2
      go_ret
      exact ⟨rfl, f⟩
    · have hn0 : ((n : Int) != 0) = true := by rw [bne_iff_ne]; omega
      have hne : (n : Int) ≠ 0 := by omega
      have hlt : m % n < n := Nat.mod_lt _ (by omega)
      have hg2 : Hid (Nat.gcd n (m % n) = G) := Lib.hid (by rw [gcd_step]; exact hg.out)
      have hmod : (m : Int) % (n : Int) = ((m % n : Nat) : Int) := by omega
      obtain ⟨R, hR⟩ : ∃ R, m % n = R := ⟨_, rfl⟩
      rw [hR] at hlt hg2 hmod
      have HL := Lib.hid hlt
      have HM := Lib.hid hmod
      clear hR h0 hg hlt hmod
      go_wp2_with fail
      go_quiet (fail)
      go_wp2
      go_roundw
      case rel => exact ⟨n, R, rfl, congrArg (Value.int .u64) HM.out, hg2, f.trans0 (Fr.drewN _ _ _)⟩
      case measure => have := HL.out; have := HM.out; simp [intOf]; omega

set_option maxRecDepth 100000 in
set_option maxHeartbeats 400000 in
theorem least_no (a d : Nat) (w : World) (h : d = 0 ∨ d < a) :
    Calls Try.prog 17 #[.int .u64 (a : Int), .int .u64 (d : Int)] w fun e w' => e = .returned (.tuple #[.int .u64 0, .int .u64 0]) ∧ Fr S0 w w' := by
  have HC := Lib.hid (fun W => check_no a d W h)
  clear h
  go_enter Try.func17, Try.ntmps17
  go_wp2_with fail
  refine (HC.out _).mono ?_
  rintro e w1 ⟨rfl, f1⟩
  go_wp2
  go_ret2
  exact ⟨rfl, f1⟩

set_option maxRecDepth 100000 in
set_option maxHeartbeats 400000 in
theorem least_yes (a d : Nat) (w : World) (hd : 0 < d) (h : a ≤ d) (h64 : d < 18446744073709551616) :
    Calls Try.prog 17 #[.int .u64 (a : Int), .int .u64 (d : Int)] w fun e w' => e = .returned (.tuple #[.int .u64 (a / Nat.gcd a d : Nat), .int .u64 (d / Nat.gcd a d : Nat)]) ∧ Fr S0 w w' := by
  have HC := Lib.hid (fun W => check_yes a d W hd h)
  have HD := Lib.hid (fun W => divisor_any a d W)
  have hg : 0 < Nat.gcd a d := Nat.gcd_pos_of_pos_right _ hd
  obtain ⟨G, hG⟩ : ∃ G, Nat.gcd a d = G := ⟨_, rfl⟩
  rw [hG] at HD hg ⊢
  have hne : (G : Int) ≠ 0 := by omega
  have q1 : (a : Int) / (G : Int) = ((a / G : Nat) : Int) := by omega
  have q2 : (d : Int) / (G : Int) = ((d / G : Nat) : Int) := by omega
  have b1 : a / G < 18446744073709551616 := by have := Nat.div_le_self a G; omega
  have b2 : d / G < 18446744073709551616 := by have := Nat.div_le_self d G; omega
  obtain ⟨A1, hA1⟩ : ∃ A1, a / G = A1 := ⟨_, rfl⟩
  obtain ⟨A2, hA2⟩ : ∃ A2, d / G = A2 := ⟨_, rfl⟩
  rw [hA1] at q1 b1 ⊢
  rw [hA2] at q2 b2 ⊢
  clear hA1 hA2 hG h hd hg h64
  go_enter Try.func17, Try.ntmps17
  go_wp2_with fail
  refine (HC.out _).mono ?_
  rintro e w1 ⟨rfl, f1⟩
  go_wp2_with fail
  refine (HD.out _).mono ?_
  rintro e w2 ⟨rfl, f2⟩
  go_wp2_with fail
  go_quiet (fail)
  go_wp2
  go_ret2
  exact ⟨rfl, (f1.trans0 f2).trans0 (Fr.drewN _ _ _)⟩

set_option maxRecDepth 100000 in
set_option maxHeartbeats 400000 in
theorem power_no (d : Int) (w : World) (h : d < 0 ∨ 19 < d) :
    Calls Try.prog 19 #[.int .i64 d] w fun e w' => e = .returned (.tuple #[.int .u64 0, .int .i64 1]) ∧ Fr S0 w w' := by
  by_cases h0 : d < 0
  · clear h
    go_enter Try.func19, Try.ntmps19
    go_wp2
    go_ret2
    exact ⟨rfl, Fr.refl _ _⟩
  · have h1 : d > 19 := by omega
    clear h
    go_enter Try.func19, Try.ntmps19
    go_wp2
    go_ret2
    exact ⟨rfl, Fr.refl _ _⟩

theorem pow_step (i : Nat) (h : i < 19) : 10 ^ i < 1000000000000000001 := by
  have := Nat.pow_le_pow_right (show 0 < 10 by decide) (show i ≤ 18 by omega)
  have e : (10 : Nat) ^ 18 = 1000000000000000000 := by decide
  omega

set_option maxRecDepth 100000 in
set_option maxHeartbeats 400000 in
theorem power_yes (d : Nat) (w : World) (h : d ≤ 19) :
    Calls Try.prog 19 #[.int .i64 (d : Int)] w fun e w' => e = .returned (.tuple #[.int .u64 (10 ^ d : Nat), .int .i64 0]) ∧ Fr S0 w w' := by
  obtain ⟨T, hT⟩ : ∃ T, 10 ^ d = T := ⟨_, rfl⟩
  have HT := Lib.hid hT
  rw [hT]
  clear hT
  have h1 : decide (19 < d) = false := decide_eq_false (by omega)
  go_enter Try.func19, Try.ntmps19
  go_wp2
  go_loopw [4, 12] (fun x y wr => ∃ m i : Nat, x = .int .u64 (m : Int) ∧ y = .int .i64 (i : Int) ∧ i ≤ d ∧ Hid (10 ^ i = m) ∧ w = wr) (fun _ y _ => d - (intOf y).toNat)
  case atStart => exact ⟨1, 0, rfl, rfl, by omega, Lib.hid rfl, rfl⟩
  case round =>
    obtain ⟨m, i, rfl, rfl, hi, hm, rfl⟩ := hrel
    by_cases hlt : (i : Int) < (d : Int)
    · have hs := pow_step i (by omega)
      have HN : Hid (10 ^ (i + 1) = m * 10) := Lib.hid (by rw [Nat.pow_succ, hm.out])
      rw [hm.out] at hs
      clear hm
      go_wp2
      go_roundw
      case rel => exact ⟨m * 10, i + 1, by go_num, by go_num, by omega, HN, by trivial⟩
      case measure => simp [intOf]; omega
    · obtain rfl : i = d := by omega
      have e := hm.out
      rw [HT.out] at e
      subst e
      clear hm HT
      go_wp2
      go_ret2
      exact ⟨rfl, Fr.refl _ _⟩

set_option maxRecDepth 100000 in
set_option maxHeartbeats 400000 in
theorem digits_any (n c : Nat) (w : World) (hn : n < 10 ^ c) (hp : ∀ i, i < c → 10 ^ i ≤ n) (hc : c ≤ 20) (h64 : n < 18446744073709551616) :
    Calls Try.prog 21 #[.int .u64 (n : Int)] w fun e w' => e = .returned (.int .i64 (max 1 c : Nat)) ∧ Fr S0 w w' := by
  have HI := Lib.hid (fun i => pow_iff (n := n) (c := c) (i := i) hn hp)
  have HN : Hid (n / 10 ^ 0 = n) := Lib.hid (by rw [Nat.pow_zero, Nat.div_one])
  have HC := Lib.hid hc
  clear hn hp hc
  go_enter Try.func21, Try.ntmps21
  go_wp2
  go_loopw [0, 3] (fun x y wr => ∃ m X : Nat, x = .int .u64 (X : Int) ∧ y = .int .i64 ((m : Int) + 1) ∧ X < 18446744073709551616 ∧ Hid (n / 10 ^ m = X ∧ (m = 0 ∨ m < c)) ∧ w = wr) (fun x _ _ => (intOf x).toNat)
  case atStart => exact ⟨0, n, rfl, rfl, h64, Lib.hid ⟨HN.out, .inl rfl⟩, rfl⟩
  case round =>
    obtain ⟨m, X, rfl, rfl, hx64, hm, rfl⟩ := hrel
    have ht := ten_iff n m
    rw [hm.out.1] at ht
    have hi := HI.out (m + 1)
    by_cases h10 : (X : Int) ≥ 10
    · have HX : Hid (n / 10 ^ (m + 1) = X / 10 ∧ (m + 1 = 0 ∨ m + 1 < c)) := Lib.hid ⟨by rw [← ten_next, hm.out.1], .inr (hi.1 (ht.1 (by omega)))⟩
      have m20 : m < 20 := by have := HX.out.2; have := HC.out; omega
      clear ht hi hm
      go_wp2
      go_roundw
      case rel => exact ⟨m + 1, X / 10, by go_num, by go_num, by omega, HX, by trivial⟩
      case measure => simp [intOf]; omega
    · have HE : Hid (max 1 c = m + 1) := Lib.hid (by
        have h2 := hm.out.2
        have : ¬ (m + 1 < c) := fun g => by have := ht.2 (hi.2 g); omega
        omega)
      clear ht hi hm
      go_wp2
      go_ret
      exact ⟨by rw [HE.out]; go_num, Fr.refl _ _⟩
end Go.Proofs.Ytcfddbhkcbflbaa
