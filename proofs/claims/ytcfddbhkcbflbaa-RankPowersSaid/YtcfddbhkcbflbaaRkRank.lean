/- What the landed functions of layer 11 do: ranks and spots. -/
import Derived.Test.YtcfddbhkcbflbaaRkCode
namespace Go.Proofs.Ytcfddbhkcbflbaa
open Go.RowKit

/-- the ceiling that a rank stands on -/
theorem ceil_part (a d n : Nat) (w : World) (hn : n < 18446744073709551616) (h64 : d < 18446744073709551616) (hd : 0 < d) (h : a ≤ d) :
    Calls Try.prog 34 #[.int .u64 (a : Int), .int .u64 (n : Int), .int .u64 (d : Int)] w fun e w' => e = .returned (.tuple #[.int .u64 (clg (a * n) d : Nat), .int .i64 0]) ∧ Fr S0 w w' := by
  have hc := ceil_any a n d w (by omega) hn h64
  have hq := quo_all (n := n) h
  unfold optV ceilR at hc
  rw [if_neg (by omega)] at hc
  unfold clg
  by_cases hr : a * n % d = 0
  · rw [if_pos hr] at hc ⊢
    exact hc
  · have := quo_part (n := n) h hr
    rw [if_neg hr, if_neg (by omega)] at hc
    rw [if_neg hr]
    exact hc

set_option maxRecDepth 100000 in
set_option maxHeartbeats 400000 in
theorem first_any (a d n : Nat) (w : World) (hn : n < 18446744073709551616) (h64 : d < 18446744073709551616) (hd : 0 < d) (h : a ≤ d) :
    Calls Try.prog 24 #[.int .u64 (a : Int), .int .u64 (d : Int), .int .u64 (n : Int)] w fun e w' => e = .returned (.tuple #[.int .u64 (rnk a d n : Nat), .int .i64 0]) ∧ Fr S0 w w' := by
  have HC := Lib.hid (fun W => ceil_part a d n W hn h64 hd h)
  unfold rnk
  obtain ⟨C, hC⟩ : ∃ C, clg (a * n) d = C := ⟨_, rfl⟩
  rw [hC] at HC ⊢
  have em : max (C : Int) 1 = ((max 1 C : Nat) : Int) := by omega
  obtain ⟨M, hM⟩ : ∃ M, max 1 C = M := ⟨_, rfl⟩
  rw [hM] at em ⊢
  clear hC hM hn h64 hd h
  go_enter Try.func24, Try.ntmps24
  go_wp2_with fail
  refine (HC.out _).mono ?_
  rintro e w1 ⟨rfl, f1⟩
  go_wp2
  go_ret2
  exact ⟨rfl, f1⟩

set_option maxRecDepth 100000 in
set_option maxHeartbeats 400000 in
theorem half_no (a d n : Nat) (w : World) (hn : 4611686018427387904 < n) :
    Calls Try.prog 26 #[.int .u64 (a : Int), .int .u64 (d : Int), .int .u64 (n : Int)] w fun e w' => e = .returned (.tuple #[.int .u64 0, .int .i64 6]) ∧ Fr S0 w w' := by
  go_enter Try.func26, Try.ntmps26
  go_wp2
  go_ret2
  exact ⟨rfl, Fr.refl _ _⟩

set_option maxRecDepth 100000 in
set_option maxHeartbeats 400000 in
theorem half_yes (a d n : Nat) (w : World) (hn : n ≤ 4611686018427387904) (h64 : d < 18446744073709551616) (hd : 0 < d) (h : a ≤ d) :
    Calls Try.prog 26 #[.int .u64 (a : Int), .int .u64 (d : Int), .int .u64 (n : Int)] w fun e w' => e = .returned (.tuple #[.int .u64 (spt a d n : Nat), .int .i64 0]) ∧ Fr S0 w w' := by
  have hq := spt_all (n := n) h
  unfold spt at hq ⊢
  have HM := Lib.hid (fun W => muldiv_yes a (2 * n) d W (by omega) (by omega) h64 hd (by omega))
  obtain ⟨Q, hQ⟩ : ∃ Q, a * (2 * n) / d = Q := ⟨_, rfl⟩
  obtain ⟨R, hR⟩ : ∃ R, a * (2 * n) % d = R := ⟨_, rfl⟩
  obtain ⟨N, hN⟩ : ∃ N, 2 * n = N := ⟨_, rfl⟩
  rw [hQ, hR, hN] at HM
  rw [hQ]
  have wN : IntKind.u64.wrap (2 * (n : Int)) = (N : Int) := wrap_nat (by omega) (by omega)
  clear hQ hR hN h64 hd h hq
  go_enter Try.func26, Try.ntmps26
  go_wp2_with fail
  refine (HM.out _).mono ?_
  rintro e w1 ⟨rfl, f1⟩
  go_wp2
  go_ret2
  exact ⟨rfl, f1⟩

section
variable (f : Nat) (a d n : Nat) (w : World)
set_option maxRecDepth 100000 in
set_option maxHeartbeats 400000 in
theorem among_no (h : d = 0 ∨ d < a) :
    Calls Try.prog 23 #[.int .u64 (a : Int), .int .u64 (d : Int), .int .u64 (n : Int), .func (.func f) #[] #[]] w fun e w' => e = .returned (.tuple #[.int .u64 0, .int .i64 7]) ∧ Fr S0 w w' := by
  have HC := Lib.hid (fun W => check_no a d W h)
  clear h
  go_enter Try.func23, Try.ntmps23
  go_wp2_with fail
  refine (HC.out _).mono ?_
  rintro e w1 ⟨rfl, f1⟩
  go_wp2
  go_ret2
  exact ⟨rfl, f1⟩
set_option maxRecDepth 100000 in
set_option maxHeartbeats 400000 in
theorem among_none (hd : 0 < d) (h : a ≤ d) :
    Calls Try.prog 23 #[.int .u64 (a : Int), .int .u64 (d : Int), .int .u64 0, .func (.func f) #[] #[]] w fun e w' => e = .returned (.tuple #[.int .u64 0, .int .i64 8]) ∧ Fr S0 w w' := by
  have HC := Lib.hid (fun W => check_yes a d W hd h)
  clear h hd
  go_enter Try.func23, Try.ntmps23
  go_wp2_with fail
  refine (HC.out _).mono ?_
  rintro e w1 ⟨rfl, f1⟩
  go_wp2
  go_ret2
  exact ⟨rfl, f1⟩
end

set_option maxRecDepth 100000 in
set_option maxHeartbeats 400000 in
theorem among_first (a d n : Nat) (w : World) (hn : n < 18446744073709551616) (h64 : d < 18446744073709551616) (n0 : 0 < n) (hd : 0 < d) (h : a ≤ d) :
    Calls Try.prog 23 #[.int .u64 (a : Int), .int .u64 (d : Int), .int .u64 (n : Int), .func (.func 24) #[] #[]] w fun e w' => e = .returned (.tuple #[.int .u64 (rnk a d n : Nat), .int .i64 0]) ∧ Fr S0 w w' := by
  have HC := Lib.hid (fun W => check_yes a d W hd h)
  have HT := Lib.hid (fun W => first_any a d n W hn h64 hd h)
  have hn0 : ((n : Int) == 0) = false := by rw [beq_eq_false_iff_ne]; omega
  obtain ⟨R, hR⟩ : ∃ R, rnk a d n = R := ⟨_, rfl⟩
  rw [hR] at HT ⊢
  clear h hd h64 hR
  go_enter Try.func23, Try.ntmps23
  go_wp2_with fail
  refine (HC.out _).mono ?_
  rintro e w1 ⟨rfl, f1⟩
  go_wp2_with fail
  refine (HT.out _).mono ?_
  rintro e w2 ⟨rfl, f2⟩
  go_wp2
  go_ret2
  exact ⟨rfl, f1.trans0 f2⟩

set_option maxRecDepth 100000 in
set_option maxHeartbeats 400000 in
theorem among_half_no (a d n : Nat) (w : World) (hn : 4611686018427387904 < n) (hd : 0 < d) (h : a ≤ d) :
    Calls Try.prog 23 #[.int .u64 (a : Int), .int .u64 (d : Int), .int .u64 (n : Int), .func (.func 26) #[] #[]] w fun e w' => e = .returned (.tuple #[.int .u64 0, .int .i64 6]) ∧ Fr S0 w w' := by
  have HC := Lib.hid (fun W => check_yes a d W hd h)
  have HT := Lib.hid (fun W => half_no a d n W hn)
  have hn0 : ((n : Int) == 0) = false := by rw [beq_eq_false_iff_ne]; omega
  clear h hd hn
  go_enter Try.func23, Try.ntmps23
  go_wp2_with fail
  refine (HC.out _).mono ?_
  rintro e w1 ⟨rfl, f1⟩
  go_wp2_with fail
  refine (HT.out _).mono ?_
  rintro e w2 ⟨rfl, f2⟩
  go_wp2
  go_ret2
  exact ⟨rfl, f1.trans0 f2⟩

set_option maxRecDepth 100000 in
set_option maxHeartbeats 400000 in
theorem among_half_yes (a d n : Nat) (w : World) (hn : n ≤ 4611686018427387904) (h64 : d < 18446744073709551616) (n0 : 0 < n) (hd : 0 < d) (h : a ≤ d) :
    Calls Try.prog 23 #[.int .u64 (a : Int), .int .u64 (d : Int), .int .u64 (n : Int), .func (.func 26) #[] #[]] w fun e w' => e = .returned (.tuple #[.int .u64 (spt a d n : Nat), .int .i64 0]) ∧ Fr S0 w w' := by
  have HC := Lib.hid (fun W => check_yes a d W hd h)
  have HT := Lib.hid (fun W => half_yes a d n W hn h64 hd h)
  have hn0 : ((n : Int) == 0) = false := by rw [beq_eq_false_iff_ne]; omega
  obtain ⟨R, hR⟩ : ∃ R, spt a d n = R := ⟨_, rfl⟩
  rw [hR] at HT ⊢
  clear h hd h64 hR
  go_enter Try.func23, Try.ntmps23
  go_wp2_with fail
  refine (HC.out _).mono ?_
  rintro e w1 ⟨rfl, f1⟩
  go_wp2_with fail
  refine (HT.out _).mono ?_
  rintro e w2 ⟨rfl, f2⟩
  go_wp2
  go_ret2
  exact ⟨rfl, f1.trans0 f2⟩

/-- what a rank's call tells -/
def rkR (a d n : Nat) : Nat := if d = 0 ∨ d < a then 0 else if n = 0 then 0 else rnk a d n
def rkE (a d n : Nat) : Nat := if d = 0 ∨ d < a then 7 else if n = 0 then 8 else 0
/-- what a spot's call tells -/
def spR (a d n : Nat) : Nat := if d = 0 ∨ d < a then 0 else if n = 0 then 0 else if 4611686018427387904 < n then 0 else spt a d n
def spE (a d n : Nat) : Nat := if d = 0 ∨ d < a then 7 else if n = 0 then 8 else if 4611686018427387904 < n then 6 else 0

theorem among_rank (a d n : Nat) (w : World) (hn : n < 18446744073709551616) (h64 : d < 18446744073709551616) :
    Calls Try.prog 23 #[.int .u64 (a : Int), .int .u64 (d : Int), .int .u64 (n : Int), .func (.func 24) #[] #[]] w fun e w' => e = .returned (.tuple #[.int .u64 (rkR a d n : Nat), .int .i64 (rkE a d n : Nat)]) ∧ Fr S0 w w' := by
  unfold rkR rkE
  by_cases h : d = 0 ∨ d < a
  · rw [if_pos h, if_pos h]
    exact among_no _ a d n w h
  · rw [if_neg h, if_neg h]
    by_cases h0 : n = 0
    · rw [if_pos h0, if_pos h0]
      subst h0
      exact among_none _ a d w (by omega) (by omega)
    · rw [if_neg h0, if_neg h0]
      exact among_first a d n w hn h64 (by omega) (by omega) (by omega)
theorem among_spot (a d n : Nat) (w : World) (h64 : d < 18446744073709551616) :
    Calls Try.prog 23 #[.int .u64 (a : Int), .int .u64 (d : Int), .int .u64 (n : Int), .func (.func 26) #[] #[]] w fun e w' => e = .returned (.tuple #[.int .u64 (spR a d n : Nat), .int .i64 (spE a d n : Nat)]) ∧ Fr S0 w w' := by
  unfold spR spE
  by_cases h : d = 0 ∨ d < a
  · rw [if_pos h, if_pos h]
    exact among_no _ a d n w h
  · rw [if_neg h, if_neg h]
    by_cases h0 : n = 0
    · rw [if_pos h0, if_pos h0]
      subst h0
      exact among_none _ a d w (by omega) (by omega)
    · rw [if_neg h0, if_neg h0]
      by_cases h6 : 4611686018427387904 < n
      · rw [if_pos h6, if_pos h6]
        exact among_half_no a d n w h6 (by omega) (by omega)
      · rw [if_neg h6, if_neg h6]
        exact among_half_yes a d n w (by omega) h64 (by omega) (by omega) (by omega)

set_option maxRecDepth 100000 in
set_option maxHeartbeats 400000 in
theorem rank_any (a d n : Nat) (w : World) (hn : n < 18446744073709551616) (h64 : d < 18446744073709551616) :
    Calls Try.prog 10 #[.int .u64 (a : Int), .int .u64 (d : Int), .int .u64 (n : Int)] w fun e w' => e = .returned (.tuple #[.int .u64 (rkR a d n : Nat), .int .i64 (rkE a d n : Nat)]) ∧ Fr S0 w w' := by
  have HT := Lib.hid (fun W => among_rank a d n W hn h64)
  obtain ⟨R, hR⟩ : ∃ R, rkR a d n = R := ⟨_, rfl⟩
  obtain ⟨E, hE⟩ : ∃ E, rkE a d n = E := ⟨_, rfl⟩
  rw [hR, hE] at HT ⊢
  clear hR hE hn h64
  go_enter Try.func10, Try.ntmps10
  go_wp2_with fail
  refine (HT.out _).mono ?_
  rintro e w1 ⟨rfl, f1⟩
  go_wp2
  go_ret2
  exact ⟨rfl, f1⟩

set_option maxRecDepth 100000 in
set_option maxHeartbeats 400000 in
theorem spot_any (a d n : Nat) (w : World) (h64 : d < 18446744073709551616) :
    Calls Try.prog 12 #[.int .u64 (a : Int), .int .u64 (d : Int), .int .u64 (n : Int)] w fun e w' => e = .returned (.tuple #[.int .u64 (spR a d n : Nat), .int .i64 (spE a d n : Nat)]) ∧ Fr S0 w w' := by
  have HT := Lib.hid (fun W => among_spot a d n W h64)
  obtain ⟨R, hR⟩ : ∃ R, spR a d n = R := ⟨_, rfl⟩
  obtain ⟨E, hE⟩ : ∃ E, spE a d n = E := ⟨_, rfl⟩
  rw [hR, hE] at HT ⊢
  clear hR hE h64
  go_enter Try.func12, Try.ntmps12
  go_wp2_with fail
  refine (HT.out _).mono ?_
  rintro e w1 ⟨rfl, f1⟩
  go_wp2
  go_ret2
  exact ⟨rfl, f1⟩

theorem rank_yes (a d n : Nat) (w : World) (hn : n < 18446744073709551616) (h64 : d < 18446744073709551616) (n0 : 0 < n) (hd : 0 < d) (h : a ≤ d) :
    Calls Try.prog 10 #[.int .u64 (a : Int), .int .u64 (d : Int), .int .u64 (n : Int)] w fun e w' => e = .returned (.tuple #[.int .u64 (rnk a d n : Nat), .int .i64 0]) ∧ Fr S0 w w' := by
  have h1 := rank_any a d n w hn h64
  unfold rkR rkE at h1
  rw [if_neg (by omega), if_neg (by omega), if_neg (by omega), if_neg (by omega)] at h1
  exact h1
theorem spot_yes (a d n : Nat) (w : World) (hn : n ≤ 4611686018427387904) (h64 : d < 18446744073709551616) (n0 : 0 < n) (hd : 0 < d) (h : a ≤ d) :
    Calls Try.prog 12 #[.int .u64 (a : Int), .int .u64 (d : Int), .int .u64 (n : Int)] w fun e w' => e = .returned (.tuple #[.int .u64 (spt a d n : Nat), .int .i64 0]) ∧ Fr S0 w w' := by
  have h1 := spot_any a d n w h64
  unfold spR spE at h1
  rw [if_neg (by omega), if_neg (by omega), if_neg (by omega), if_neg (by omega), if_neg (by omega), if_neg (by omega)] at h1
  exact h1
end Go.Proofs.Ytcfddbhkcbflbaa
