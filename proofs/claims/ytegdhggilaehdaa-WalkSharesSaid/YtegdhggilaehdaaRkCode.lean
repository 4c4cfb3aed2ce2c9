/- What the landed functions of layer 11 do: parts, divisors, powers, ranks and spots. -/
import Derived.Test.YtegdhggilaehdaaWdCode
import Derived.Test.YtegdhggilaehdaaRkMath
namespace Go.Proofs.Ytegdhggilaehdaa
open Go.RowKit

set_option maxRecDepth 100000 in
set_option maxHeartbeats 400000 in
theorem check_yes (a d : Nat) (w : World) (hd : 0 < d) (h : a ≤ d) :
    Calls Try.prog 48 #[.int .u64 (a : Int), .int .u64 (d : Int)] w fun e w' => e = .returned (.int .i64 0) ∧ Fr S0 w w' := by
  have hd0 : ((d : Int) == 0) = false := by rw [beq_eq_false_iff_ne]; omega
  have hh : decide (d < a) = false := decide_eq_false (by omega)
  clear hd h
  go_enter Try.func48, Try.ntmps48
  go_wp2
  go_ret
  exact ⟨rfl, Fr.refl _ _⟩

set_option maxRecDepth 100000 in
set_option maxHeartbeats 400000 in
theorem check_no (a d : Nat) (w : World) (h : d = 0 ∨ d < a) :
    Calls Try.prog 48 #[.int .u64 (a : Int), .int .u64 (d : Int)] w fun e w' => e = .returned (.int .i64 7) ∧ Fr S0 w w' := by
  by_cases h0 : d = 0
  · subst h0
    clear h
    go_enter Try.func48, Try.ntmps48
    go_wp2
    go_ret
    exact ⟨rfl, Fr.refl _ _⟩
  · have hd0 : ((d : Int) == 0) = false := by rw [beq_eq_false_iff_ne]; omega
    have hh : decide (d < a) = true := decide_eq_true (by omega)
    clear h h0
    go_enter Try.func48, Try.ntmps48
    go_wp2
    go_ret
    exact ⟨rfl, Fr.refl _ _⟩

set_option maxRecDepth 100000 in
set_option maxHeartbeats 400000 in
theorem divisor_any (a b : Nat) (w : World) :
    Calls Try.prog 49 #[.int .u64 (a : Int), .int .u64 (b : Int)] w fun e w' => e = .returned (.int .u64 (Nat.gcd a b : Nat)) ∧ Fr S0 w w' := by
  obtain ⟨G, hG⟩ : ∃ G, Nat.gcd a b = G := ⟨_, rfl⟩
  have HG := Lib.hid hG
  rw [hG]
  clear hG
  go_enter Try.func49, Try.ntmps49
  go_wp2
  go_loopw [0, 1] (fun x y wr => ∃ m n : Nat, x = .int .u64 (m : Int) ∧ y = .int .u64 (n : Int) ∧ Hid (Nat.gcd m n = G) ∧ Fr S0 w wr) (fun _ y _ => (intOf y).toNat)
  case atStart => exact ⟨a, b, rfl, rfl, HG, Fr.refl _ _⟩
  case round =>
    obtain ⟨m, n, rfl, rfl, hg, f⟩ := hrel
    by_cases h0 : n = 0
    · subst h0
      have hm := hg.out
      rw [Nat.gcd_zero_right] at hm
      subst hm
      clear hg
      go_wp2
      go_ret
      exact ⟨rfl, f⟩
    · have hn0 : ((n : Int) != 0) = true := by rw [bne_iff_ne]; omega
      have hne : (n : Int) ≠ 0 := by omega
      have hlt : m % n < n := Nat.mod_lt _ (by omega)
      have hg2 : Hid (Nat.gcd n (m % n) = G) := Lib.hid (by rw [gcd_step]; exact hg.out)
      have hmod : (m : Int) % (n : Int) = ((m % n : Nat) : Int) := by omega
      obtain ⟨R, hR⟩ : ∃ R, m % n = R := ⟨_, rfl⟩
      rw [hR] at hlt hg2 hmod
      have HL := Lib.hid hlt
      have HM := Lib.hid hmod
      clear hR h0 hg hlt hmod
      go_wp2_with fail
      go_quiet (fail)
      go_wp2
      go_roundw
      case rel => exact ⟨n, R, rfl, congrArg (Value.int .u64) HM.out, hg2, f.trans0 (Fr.drewN _ _ _)⟩
      case measure => have := HL.out; have := HM.out; simp [intOf]; omega

set_option maxRecDepth 100000 in
set_option maxHeartbeats 400000 in
theorem least_no (a d : Nat) (w : World) (h : d = 0 ∨ d < a) :
    Calls Try.prog 37 #[.int .u64 (a : Int), .int .u64 (d : Int)] w fun e w' => e = .returned (.tuple #[.int .u64 0, .int .u64 0]) ∧ Fr S0 w w' := by
  have HC := Lib.hid (fun W => check_no a d W h)
  clear h
  go_enter Try.func37, Try.ntmps37
  go_wp2_with fail
  refine (HC.out _).mono ?_
  rintro e w1 ⟨rfl, f1⟩
  go_wp2
  go_ret2
  exact ⟨rfl, f1⟩

set_option maxRecDepth 100000 in
set_option maxHeartbeats 400000 in
theorem least_yes (a d : Nat) (w : World) (hd : 0 < d) (h : a ≤ d) (h64 : d < 18446744073709551616) :
    Calls Try.prog 37 #[.int .u64 (a : Int), .int .u64 (d : Int)] w fun e w' => e = .returned (.tuple #[.int .u64 (a / Nat.gcd a d : Nat), .int .u64 (d / Nat.gcd a d : Nat)]) ∧ Fr S0 w w' := by
  have HC := Lib.hid (fun W => check_yes a d W hd h)
  have HD := Lib.hid (fun W => divisor_any a d W)
  have hg : 0 < Nat.gcd a d := Nat.gcd_pos_of_pos_right _ hd
  obtain ⟨G, hG⟩ : ∃ G, Nat.gcd a d = G := ⟨_, rfl⟩
  rw [hG] at HD hg ⊢
  have hne : (G : Int) ≠ 0 := by omega
  have q1 : (a : Int) / (G : Int) = ((a / G : Nat) : Int) := by omega
  have q2 : (d : Int) / (G : Int) = ((d / G : Nat) : Int) := by omega
  have b1 : a / G < 18446744073709551616 := by have := Nat.div_le_self a G; omega
  have b2 : d / G < 18446744073709551616 := by have := Nat.div_le_self d G; omega
  obtain ⟨A1, hA1⟩ : ∃ A1, a / G = A1 := ⟨_, rfl⟩
  obtain ⟨A2, hA2⟩ : ∃ A2, d / G = A2 := ⟨_, rfl⟩
  rw [hA1] at q1 b1 ⊢
  rw [hA2] at q2 b2 ⊢
  clear hA1 hA2 hG h hd hg h64
  go_enter Try.func37, Try.ntmps37
  go_wp2_with fail
  refine (HC.out _).mono ?_
  rintro e w1 ⟨rfl, f1⟩
  go_wp2_with fail
  refine (HD.out _).mono ?_
  rintro e w2 ⟨rfl, f2⟩
  go_wp2_with fail
  go_quiet (fail)
  go_wp2
  go_ret2
  exact ⟨rfl, (f1.trans0 f2).trans0 (Fr.drewN _ _ _)⟩

theorem pow_step (i : Nat) (h : i < 19) : 10 ^ i < 1000000000000000001 := by
  have := Nat.pow_le_pow_right (show 0 < 10 by decide) (show i ≤ 18 by omega)
  have e : (10 : Nat) ^ 18 = 1000000000000000000 := by decide
  omega

end Go.Proofs.Ytegdhggilaehdaa
