/- The law on a part's least numbers. -/
import Derived.Test.YtcfddbhkcbflbaaRkLawRanks
namespace Go.Proofs.Ytcfddbhkcbflbaa
open Go.RowKit

set_option maxRecDepth 100000 in
set_option maxHeartbeats 1000000 in
theorem law_least_no (a d k : Nat) (w : World) (h : d = 0 ∨ d < a) :
    Calls Try.prog 5 #[.int .u64 (a : Int), .int .u64 (d : Int), .int .u32 (k : Int)] w fun e w' => e = .returned (.bool true) ∧ Fr S0 w w' := by
  have hw := start w
  have H1 := Lib.hid (fun W => least_no a d W h)
  have H2 := Lib.hid (fun W => rcheck_any a d W)
  rw [show ckN a d = 7 by unfold ckN; exact if_pos h] at H2
  clear h
  go_enter Try.func5, Try.ntmps5
  go_wp2_with fail
  refine hw _ ?_
  intro w1 f1
  clear hw
  go_wp2_with fail
  refine (H1.out _).mono ?_
  rintro e w2 ⟨rfl, f2⟩
  go_wp2_with fail
  refine (H2.out _).mono ?_
  rintro e w3 ⟨rfl, f3⟩
  go_wp2
  go_ret
  exact ⟨rfl, (f1.trans0 f2).trans0 f3⟩

theorem cmpF_least {a d : Nat} (hd : 0 < d) : cmpF (a / Nat.gcd a d) (d / Nat.gcd a d) a d = 0 := by
  unfold cmpF cmpI
  rw [least_same hd]
  split
  · rfl
  · exact if_pos rfl

/-- what the law asks of the least numbers A and B of a and d -/
structure LeastOk (a d A B : Nat) : Prop where
  le : B ≤ d
  none : a = 0 → A = 0 ∧ B = 1
  apart : ∀ p, 2 ≤ p → A % p = 0 → B % p = 0 → False
theorem LeastOk.mk2 {a d : Nat} (hd : 0 < d) : LeastOk a d (a / Nat.gcd a d) (d / Nat.gcd a d) := by
  refine ⟨Nat.div_le_self _ _, ?_, fun p hp h1 h2 => least_apart hd hp h1 h2⟩
  rintro rfl
  rw [Nat.gcd_zero_left, Nat.zero_div, Nat.div_self hd]
  exact ⟨rfl, rfl⟩

set_option maxRecDepth 100000 in
set_option maxHeartbeats 4000000 in
theorem law_least_zero (a d k : Nat) (w : World) (hd : 0 < d) (h : a ≤ d) (h64 : d < 18446744073709551616) (hk : k < 4294967296) (ha0 : a = 0) :
    Calls Try.prog 5 #[.int .u64 (a : Int), .int .u64 (d : Int), .int .u32 (k : Int)] w fun e w' => e = .returned (.bool true) ∧ Fr S0 w w' := by
  have hw := start w
  have H1 := Lib.hid (fun W => least_yes a d W hd h h64)
  have H2 := Lib.hid (fun W => rcheck_any a d W)
  rw [show ckN a d = 0 by unfold ckN; exact if_neg (by omega)] at H2
  have hA : a / Nat.gcd a d < 18446744073709551616 := by have := Nat.div_le_self a (Nat.gcd a d); omega
  have hB : d / Nat.gcd a d < 18446744073709551616 := by have := Nat.div_le_self d (Nat.gcd a d); omega
  have H3 := Lib.hid (fun W => rcmpf_any (a / Nat.gcd a d) (d / Nat.gcd a d) a d W hA hB (by omega) h64)
  have H4 := Lib.hid (fun W => cmpf_any (a / Nat.gcd a d) (d / Nat.gcd a d) a d W hA hB (by omega) h64)
  rw [cmpF_least hd] at H3 H4
  have H5 : Hid (d < 4294967296 → 0 < k → (a * k < 18446744073709551616 ∧ d * k < 18446744073709551616) ∧ ∀ W, Calls Try.prog 17 #[.int .u64 (a * k : Nat), .int .u64 (d * k : Nat)] W fun e w' => e = .returned (.tuple #[.int .u64 (a / Nat.gcd a d : Nat), .int .u64 (d / Nat.gcd a d : Nat)]) ∧ Fr S0 W w') :=
    Lib.hid fun hd2 hk0 => by
      have h1 := Nat.mul_le_mul (show d ≤ 4294967295 by omega) (show k ≤ 4294967295 by omega)
      have h2 := Nat.mul_le_mul (show a ≤ 4294967295 by omega) (show k ≤ 4294967295 by omega)
      refine ⟨by omega, fun W => ?_⟩
      have := least_yes (a * k) (d * k) W (Nat.mul_pos hd hk0) (Nat.mul_le_mul_right k h) (by omega)
      rw [(least_times a d hk0).1, (least_times a d hk0).2] at this
      exact this
  have hok := LeastOk.mk2 (a := a) hd
  obtain ⟨A, eA⟩ : ∃ A, a / Nat.gcd a d = A := ⟨_, rfl⟩
  obtain ⟨B, eB⟩ : ∃ B, d / Nat.gcd a d = B := ⟨_, rfl⟩
  rw [eA, eB] at H1 H3 H4 H5 hok
  rw [eA] at hA
  rw [eB] at hB
  have b1 : decide (d < B) = false := decide_eq_false (by have := hok.le; omega)
  have z1 : ((a : Int) == 0) = true := by rw [beq_iff_eq]; omega
  have z2 : ((A : Int) != 0) = false := by rw [(hok.none ha0).1]; rfl
  have z3 : ((B : Int) != 1) = false := by rw [(hok.none ha0).2]; rfl
  have HK := Lib.hid hok.apart
  clear hok eA eB hd h ha0
  go_enter Try.func5, Try.ntmps5
  go_wp2_with fail
  refine hw _ ?_
  intro w1 f1
  clear hw
  go_wp2_with fail
  refine (H1.out _).mono ?_
  rintro e w2 ⟨rfl, f2⟩
  go_wp2_with fail
  refine (H2.out _).mono ?_
  rintro e w3 ⟨rfl, f3⟩
  go_wp2_with fail
  refine (H3.out _).mono ?_
  rintro e w4 ⟨rfl, f4⟩
  go_wp2_with fail
  refine (H4.out _).mono ?_
  rintro e w5 ⟨rfl, f5⟩
  have F5 := Lib.hid ((((f1.trans0 f2).trans0 f3).trans0 f4).trans0 f5)
  clear f1 f2 f3 f4 f5 H1 H2 H3 H4
  go_wp2_with fail
  clear b1 z1 z2 z3
  go_loopw [9] (fun x wr => ∃ p : Nat, x = .int .u64 (p : Int) ∧ 2 ≤ p ∧ p ≤ 100 ∧ w5 = wr) (fun x _ => 100 - (intOf x).toNat)
  case atStart => exact ⟨2, rfl, by omega, by omega, rfl⟩
  case round =>
    obtain ⟨p, rfl, hp2, hp, rfl⟩ := hrel
    by_cases hlt : (p : Int) < 100
    · have pne : (p : Int) ≠ 0 := by omega
      by_cases hA0 : A = 0
      · have q0 : decide (0 < A) = false := decide_eq_false (by omega)
        clear hA0
        go_wp2
        go_roundw
        case rel => exact ⟨p + 1, by go_num, by omega, by omega, by trivial⟩
        case measure => simp [intOf]; omega
      · have q0 : decide (0 < A) = true := decide_eq_true (by omega)
        have q1 : (A : Int) % (p : Int) = ((A % p : Nat) : Int) := by omega
        have q2 : (B : Int) % (p : Int) = ((B % p : Nat) : Int) := by omega
        have hk2 := HK.out p hp2
        have m1 : A % p < 18446744073709551616 := Nat.lt_of_le_of_lt (Nat.mod_le _ _) hA
        have m2 : B % p < 18446744073709551616 := Nat.lt_of_le_of_lt (Nat.mod_le _ _) hB
        obtain ⟨M, hM⟩ : ∃ M, A % p = M := ⟨_, rfl⟩
        obtain ⟨N, hN⟩ : ∃ N, B % p = N := ⟨_, rfl⟩
        rw [hM] at q1 hk2 m1
        rw [hN] at q2 hk2 m2
        clear hM hN hA0
        by_cases hM0 : M = 0
        · have n0 : ((N : Int) == 0) = false := by rw [beq_eq_false_iff_ne]; exact fun e => hk2 hM0 (by omega)
          subst hM0
          clear hk2
          go_wp2
          go_roundw
          case rel => exact ⟨p + 1, by go_num, by omega, by omega, by trivial⟩
          case measure => simp [intOf]; omega
        · have n0 : ((M : Int) == 0) = false := by rw [beq_eq_false_iff_ne]; omega
          clear hk2 hM0
          go_wp2
          go_roundw
          case rel => exact ⟨p + 1, by go_num, by omega, by omega, by trivial⟩
          case measure => simp [intOf]; omega
    · obtain rfl : p = 100 := by omega
      clear HK
      by_cases hd2 : d < 4294967296
      · have g1 : decide ((d : Int) ≥ 4294967296) = false := decide_eq_false (by omega)
        by_cases hk0 : k = 0
        · subst hk0
          clear H5 hA hB
          go_wp2
          go_ret
          exact ⟨rfl, F5.out⟩
        · have g2 : ((k : Int) == 0) = false := by rw [beq_eq_false_iff_ne]; omega
          obtain ⟨hxy, h5⟩ := H5.out hd2 (by omega)
          have c1 : (a : Int) * (k : Int) = ((a * k : Nat) : Int) := by rw [Int.natCast_mul]
          have c2 : (d : Int) * (k : Int) = ((d * k : Nat) : Int) := by rw [Int.natCast_mul]
          obtain ⟨X, hX⟩ : ∃ X, a * k = X := ⟨_, rfl⟩
          obtain ⟨Y, hY⟩ : ∃ Y, d * k = Y := ⟨_, rfl⟩
          rw [hX] at hxy c1
          rw [hY] at hxy c2
          rw [hX, hY] at h5
          have wX : IntKind.u64.wrap ((a : Int) * (k : Int)) = (X : Int) := wrap_nat c1 hxy.1
          have wY : IntKind.u64.wrap ((d : Int) * (k : Int)) = (Y : Int) := wrap_nat c2 hxy.2
          have H6 := Lib.hid h5
          clear hX hY c1 c2 hxy h5 H5 hk0
          go_wp2_with fail
          refine (H6.out _).mono ?_
          rintro e w6 ⟨rfl, f6⟩
          go_wp2
          go_ret
          exact ⟨rfl, F5.out.trans0 f6⟩
      · have g1 : decide ((d : Int) ≥ 4294967296) = true := decide_eq_true (by omega)
        clear H5 hA hB hd2
        go_wp2
        go_ret
        exact ⟨rfl, F5.out⟩

set_option maxRecDepth 100000 in
set_option maxHeartbeats 4000000 in
theorem law_least_some (a d k : Nat) (w : World) (hd : 0 < d) (h : a ≤ d) (h64 : d < 18446744073709551616) (hk : k < 4294967296) (ha0 : 0 < a) :
    Calls Try.prog 5 #[.int .u64 (a : Int), .int .u64 (d : Int), .int .u32 (k : Int)] w fun e w' => e = .returned (.bool true) ∧ Fr S0 w w' := by
  have hw := start w
  have H1 := Lib.hid (fun W => least_yes a d W hd h h64)
  have H2 := Lib.hid (fun W => rcheck_any a d W)
  rw [show ckN a d = 0 by unfold ckN; exact if_neg (by omega)] at H2
  have hA : a / Nat.gcd a d < 18446744073709551616 := by have := Nat.div_le_self a (Nat.gcd a d); omega
  have hB : d / Nat.gcd a d < 18446744073709551616 := by have := Nat.div_le_self d (Nat.gcd a d); omega
  have H3 := Lib.hid (fun W => rcmpf_any (a / Nat.gcd a d) (d / Nat.gcd a d) a d W hA hB (by omega) h64)
  have H4 := Lib.hid (fun W => cmpf_any (a / Nat.gcd a d) (d / Nat.gcd a d) a d W hA hB (by omega) h64)
  rw [cmpF_least hd] at H3 H4
  have H5 : Hid (d < 4294967296 → 0 < k → (a * k < 18446744073709551616 ∧ d * k < 18446744073709551616) ∧ ∀ W, Calls Try.prog 17 #[.int .u64 (a * k : Nat), .int .u64 (d * k : Nat)] W fun e w' => e = .returned (.tuple #[.int .u64 (a / Nat.gcd a d : Nat), .int .u64 (d / Nat.gcd a d : Nat)]) ∧ Fr S0 W w') :=
    Lib.hid fun hd2 hk0 => by
      have h1 := Nat.mul_le_mul (show d ≤ 4294967295 by omega) (show k ≤ 4294967295 by omega)
      have h2 := Nat.mul_le_mul (show a ≤ 4294967295 by omega) (show k ≤ 4294967295 by omega)
      refine ⟨by omega, fun W => ?_⟩
      have := least_yes (a * k) (d * k) W (Nat.mul_pos hd hk0) (Nat.mul_le_mul_right k h) (by omega)
      rw [(least_times a d hk0).1, (least_times a d hk0).2] at this
      exact this
  have hok := LeastOk.mk2 (a := a) hd
  obtain ⟨A, eA⟩ : ∃ A, a / Nat.gcd a d = A := ⟨_, rfl⟩
  obtain ⟨B, eB⟩ : ∃ B, d / Nat.gcd a d = B := ⟨_, rfl⟩
  rw [eA, eB] at H1 H3 H4 H5 hok
  rw [eA] at hA
  rw [eB] at hB
  have b1 : decide (d < B) = false := decide_eq_false (by have := hok.le; omega)
  have z1 : ((a : Int) == 0) = false := by rw [beq_eq_false_iff_ne]; omega
  have HK := Lib.hid hok.apart
  clear hok eA eB hd h ha0
  go_enter Try.func5, Try.ntmps5
  go_wp2_with fail
  refine hw _ ?_
  intro w1 f1
  clear hw
  go_wp2_with fail
  refine (H1.out _).mono ?_
  rintro e w2 ⟨rfl, f2⟩
  go_wp2_with fail
  refine (H2.out _).mono ?_
  rintro e w3 ⟨rfl, f3⟩
  go_wp2_with fail
  refine (H3.out _).mono ?_
  rintro e w4 ⟨rfl, f4⟩
  go_wp2_with fail
  refine (H4.out _).mono ?_
  rintro e w5 ⟨rfl, f5⟩
  have F5 := Lib.hid ((((f1.trans0 f2).trans0 f3).trans0 f4).trans0 f5)
  clear f1 f2 f3 f4 f5 H1 H2 H3 H4
  go_wp2_with fail
  clear b1 z1
  go_loopw [9] (fun x wr => ∃ p : Nat, x = .int .u64 (p : Int) ∧ 2 ≤ p ∧ p ≤ 100 ∧ w5 = wr) (fun x _ => 100 - (intOf x).toNat)
  case atStart => exact ⟨2, rfl, by omega, by omega, rfl⟩
  case round =>
    obtain ⟨p, rfl, hp2, hp, rfl⟩ := hrel
    by_cases hlt : (p : Int) < 100
    · have pne : (p : Int) ≠ 0 := by omega
      by_cases hA0 : A = 0
      · have q0 : decide (0 < A) = false := decide_eq_false (by omega)
        clear hA0
        go_wp2
        go_roundw
        case rel => exact ⟨p + 1, by go_num, by omega, by omega, by trivial⟩
        case measure => simp [intOf]; omega
      · have q0 : decide (0 < A) = true := decide_eq_true (by omega)
        have q1 : (A : Int) % (p : Int) = ((A % p : Nat) : Int) := by omega
        have q2 : (B : Int) % (p : Int) = ((B % p : Nat) : Int) := by omega
        have hk2 := HK.out p hp2
        have m1 : A % p < 18446744073709551616 := Nat.lt_of_le_of_lt (Nat.mod_le _ _) hA
        have m2 : B % p < 18446744073709551616 := Nat.lt_of_le_of_lt (Nat.mod_le _ _) hB
        obtain ⟨M, hM⟩ : ∃ M, A % p = M := ⟨_, rfl⟩
        obtain ⟨N, hN⟩ : ∃ N, B % p = N := ⟨_, rfl⟩
        rw [hM] at q1 hk2 m1
        rw [hN] at q2 hk2 m2
        clear hM hN hA0
        by_cases hM0 : M = 0
        · have n0 : ((N : Int) == 0) = false := by rw [beq_eq_false_iff_ne]; exact fun e => hk2 hM0 (by omega)
          subst hM0
          clear hk2
          go_wp2
          go_roundw
          case rel => exact ⟨p + 1, by go_num, by omega, by omega, by trivial⟩
          case measure => simp [intOf]; omega
        · have n0 : ((M : Int) == 0) = false := by rw [beq_eq_false_iff_ne]; omega
          clear hk2 hM0
          go_wp2
          go_roundw
          case rel => exact ⟨p + 1, by go_num, by omega, by omega, by trivial⟩
          case measure => simp [intOf]; omega
    · obtain rfl : p = 100 := by omega
      clear HK
      by_cases hd2 : d < 4294967296
      · have g1 : decide ((d : Int) ≥ 4294967296) = false := decide_eq_false (by omega)
        by_cases hk0 : k = 0
        · subst hk0
          clear H5 hA hB
          go_wp2
          go_ret
          exact ⟨rfl, F5.out⟩
        · have g2 : ((k : Int) == 0) = false := by rw [beq_eq_false_iff_ne]; omega
          obtain ⟨hxy, h5⟩ := H5.out hd2 (by omega)
          have c1 : (a : Int) * (k : Int) = ((a * k : Nat) : Int) := by rw [Int.natCast_mul]
          have c2 : (d : Int) * (k : Int) = ((d * k : Nat) : Int) := by rw [Int.natCast_mul]
          obtain ⟨X, hX⟩ : ∃ X, a * k = X := ⟨_, rfl⟩
          obtain ⟨Y, hY⟩ : ∃ Y, d * k = Y := ⟨_, rfl⟩
          rw [hX] at hxy c1
          rw [hY] at hxy c2
          rw [hX, hY] at h5
          have wX : IntKind.u64.wrap ((a : Int) * (k : Int)) = (X : Int) := wrap_nat c1 hxy.1
          have wY : IntKind.u64.wrap ((d : Int) * (k : Int)) = (Y : Int) := wrap_nat c2 hxy.2
          have H6 := Lib.hid h5
          clear hX hY c1 c2 hxy h5 H5 hk0
          go_wp2_with fail
          refine (H6.out _).mono ?_
          rintro e w6 ⟨rfl, f6⟩
          go_wp2
          go_ret
          exact ⟨rfl, F5.out.trans0 f6⟩
      · have g1 : decide ((d : Int) ≥ 4294967296) = true := decide_eq_true (by omega)
        clear H5 hA hB hd2
        go_wp2
        go_ret
        exact ⟨rfl, F5.out⟩

theorem law_least (a d k : Nat) (w : World) (h64 : d < 18446744073709551616) (hk : k < 4294967296) :
    Calls Try.prog 5 #[.int .u64 (a : Int), .int .u64 (d : Int), .int .u32 (k : Int)] w fun e w' => e = .returned (.bool true) ∧ Fr S0 w w' := by
  by_cases h : d = 0 ∨ d < a
  · exact law_least_no a d k w h
  · by_cases ha : a = 0
    · exact law_least_zero a d k w (by omega) (by omega) h64 hk ha
    · exact law_least_some a d k w (by omega) (by omega) h64 hk (by omega)
end Go.Proofs.Ytcfddbhkcbflbaa
