/- What the landed functions of layer 11 do: ranks and spots. -/
import Derived.Test.YtbpfmjekpjfceaaRkCode
namespace Go.Proofs.Ytbpfmjekpjfceaa
open Go.RowKit

/-- the ceiling that a rank stands on -/
theorem ceil_part (a d n : Nat) (w : World) (hn : n < 18446744073709551616) (h64 : d < 18446744073709551616) (hd : 0 < d) (h : a ≤ d) :
    Calls Try.prog 94 #[.int .u64 (a : Int), .int .u64 (n : Int), .int .u64 (d : Int)] w fun e w' => e = .returned (.tuple #[.int .u64 (clg (a * n) d : Nat), .int .i64 0]) ∧ Fr S0 w w' := by
  have hc := ceil_any a n d w (by omega) hn h64
  have hq := quo_all (n := n) h
  unfold optV ceilR at hc
  rw [if_neg (by omega)] at hc
  unfold clg
  by_cases hr : a * n % d = 0
  · rw [if_pos hr] at hc ⊢
    exact hc
  · have := quo_part (n := n) h hr
    rw [if_neg hr, if_neg (by omega)] at hc
    rw [if_neg hr]
    exact hc

set_option maxRecDepth 100000 in
set_option maxHeartbeats 400000 in
theorem first_any (a d n : Nat) (w : World) (hn : n < 18446744073709551616) (h64 : d < 18446744073709551616) (hd : 0 < d) (h : a ≤ d) :
    Calls Try.prog 75 #[.int .u64 (a : Int), .int .u64 (d : Int), .int .u64 (n : Int)] w fun e w' => e = .returned (.tuple #[.int .u64 (rnk a d n : Nat), .int .i64 0]) ∧ Fr S0 w w' := by
  have HC := Lib.hid (fun W => ceil_part a d n W hn h64 hd h)
  unfold rnk
  obtain ⟨C, hC⟩ : ∃ C, clg (a * n) d = C := ⟨_, rfl⟩
  rw [hC] at HC ⊢
  have em : max (C : Int) 1 = ((max 1 C : Nat) : Int) := by omega
  obtain ⟨M, hM⟩ : ∃ M, max 1 C = M := ⟨_, rfl⟩
  rw [hM] at em ⊢
  clear hC hM hn h64 hd h
  go_enter Try.func75, Try.ntmps75
  go_wp2_with fail
  refine (HC.out _).mono ?_
  rintro e w1 ⟨rfl, f1⟩
  go_wp2
  go_ret2
  exact ⟨rfl, f1⟩

section
variable (f : Nat) (a d n : Nat) (w : World)
set_option maxRecDepth 100000 in
set_option maxHeartbeats 400000 in
theorem among_no (h : d = 0 ∨ d < a) :
    Calls Try.prog 74 #[.int .u64 (a : Int), .int .u64 (d : Int), .int .u64 (n : Int), .func (.func f) #[] #[]] w fun e w' => e = .returned (.tuple #[.int .u64 0, .int .i64 7]) ∧ Fr S0 w w' := by
  have HC := Lib.hid (fun W => check_no a d W h)
  clear h
  go_enter Try.func74, Try.ntmps74
  go_wp2_with fail
  refine (HC.out _).mono ?_
  rintro e w1 ⟨rfl, f1⟩
  go_wp2
  go_ret2
  exact ⟨rfl, f1⟩
set_option maxRecDepth 100000 in
set_option maxHeartbeats 400000 in
theorem among_none (hd : 0 < d) (h : a ≤ d) :
    Calls Try.prog 74 #[.int .u64 (a : Int), .int .u64 (d : Int), .int .u64 0, .func (.func f) #[] #[]] w fun e w' => e = .returned (.tuple #[.int .u64 0, .int .i64 8]) ∧ Fr S0 w w' := by
  have HC := Lib.hid (fun W => check_yes a d W hd h)
  clear h hd
  go_enter Try.func74, Try.ntmps74
  go_wp2_with fail
  refine (HC.out _).mono ?_
  rintro e w1 ⟨rfl, f1⟩
  go_wp2
  go_ret2
  exact ⟨rfl, f1⟩
end

set_option maxRecDepth 100000 in
set_option maxHeartbeats 400000 in
theorem among_first (a d n : Nat) (w : World) (hn : n < 18446744073709551616) (h64 : d < 18446744073709551616) (n0 : 0 < n) (hd : 0 < d) (h : a ≤ d) :
    Calls Try.prog 74 #[.int .u64 (a : Int), .int .u64 (d : Int), .int .u64 (n : Int), .func (.func 75) #[] #[]] w fun e w' => e = .returned (.tuple #[.int .u64 (rnk a d n : Nat), .int .i64 0]) ∧ Fr S0 w w' := by
  have HC := Lib.hid (fun W => check_yes a d W hd h)
  have HT := Lib.hid (fun W => first_any a d n W hn h64 hd h)
  have hn0 : ((n : Int) == 0) = false := by rw [beq_eq_false_iff_ne]; omega
  obtain ⟨R, hR⟩ : ∃ R, rnk a d n = R := ⟨_, rfl⟩
  rw [hR] at HT ⊢
  clear h hd h64 hR
  go_enter Try.func74, Try.ntmps74
  go_wp2_with fail
  refine (HC.out _).mono ?_
  rintro e w1 ⟨rfl, f1⟩
  go_wp2_with fail
  refine (HT.out _).mono ?_
  rintro e w2 ⟨rfl, f2⟩
  go_wp2
  go_ret2
  exact ⟨rfl, f1.trans0 f2⟩

/-- what a rank's call tells -/
def rkR (a d n : Nat) : Nat := if d = 0 ∨ d < a then 0 else if n = 0 then 0 else rnk a d n
def rkE (a d n : Nat) : Nat := if d = 0 ∨ d < a then 7 else if n = 0 then 8 else 0
/-- what a spot's call tells -/
def spR (a d n : Nat) : Nat := if d = 0 ∨ d < a then 0 else if n = 0 then 0 else if 4611686018427387904 < n then 0 else spt a d n
def spE (a d n : Nat) : Nat := if d = 0 ∨ d < a then 7 else if n = 0 then 8 else if 4611686018427387904 < n then 6 else 0

theorem among_rank (a d n : Nat) (w : World) (hn : n < 18446744073709551616) (h64 : d < 18446744073709551616) :
    Calls Try.prog 74 #[.int .u64 (a : Int), .int .u64 (d : Int), .int .u64 (n : Int), .func (.func 75) #[] #[]] w fun e w' => e = .returned (.tuple #[.int .u64 (rkR a d n : Nat), .int .i64 (rkE a d n : Nat)]) ∧ Fr S0 w w' := by
  unfold rkR rkE
  by_cases h : d = 0 ∨ d < a
  · rw [if_pos h, if_pos h]
    exact among_no _ a d n w h
  · rw [if_neg h, if_neg h]
    by_cases h0 : n = 0
    · rw [if_pos h0, if_pos h0]
      subst h0
      exact among_none _ a d w (by omega) (by omega)
    · rw [if_neg h0, if_neg h0]
      exact among_first a d n w hn h64 (by omega) (by omega) (by omega)
set_option maxRecDepth 100000 in
set_option maxHeartbeats 400000 in
theorem rank_any (a d n : Nat) (w : World) (hn : n < 18446744073709551616) (h64 : d < 18446744073709551616) :
    Calls Try.prog 53 #[.int .u64 (a : Int), .int .u64 (d : Int), .int .u64 (n : Int)] w fun e w' => e = .returned (.tuple #[.int .u64 (rkR a d n : Nat), .int .i64 (rkE a d n : Nat)]) ∧ Fr S0 w w' := by
  have HT := Lib.hid (fun W => among_rank a d n W hn h64)
  obtain ⟨R, hR⟩ : ∃ R, rkR a d n = R := ⟨_, rfl⟩
  obtain ⟨E, hE⟩ : ∃ E, rkE a d n = E := ⟨_, rfl⟩
  rw [hR, hE] at HT ⊢
  clear hR hE hn h64
  go_enter Try.func53, Try.ntmps53
  go_wp2_with fail
  refine (HT.out _).mono ?_
  rintro e w1 ⟨rfl, f1⟩
  go_wp2
  go_ret2
  exact ⟨rfl, f1⟩

theorem rank_yes (a d n : Nat) (w : World) (hn : n < 18446744073709551616) (h64 : d < 18446744073709551616) (n0 : 0 < n) (hd : 0 < d) (h : a ≤ d) :
    Calls Try.prog 53 #[.int .u64 (a : Int), .int .u64 (d : Int), .int .u64 (n : Int)] w fun e w' => e = .returned (.tuple #[.int .u64 (rnk a d n : Nat), .int .i64 0]) ∧ Fr S0 w w' := by
  have h1 := rank_any a d n w hn h64
  unfold rkR rkE at h1
  rw [if_neg (by omega), if_neg (by omega), if_neg (by omega), if_neg (by omega)] at h1
  exact h1
end Go.Proofs.Ytbpfmjekpjfceaa
