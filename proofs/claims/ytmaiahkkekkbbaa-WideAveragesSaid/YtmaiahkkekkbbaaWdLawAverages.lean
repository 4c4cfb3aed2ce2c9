/- The law on averages. -/
import Derived.Test.YtmaiahkkekkbbaaWdLawLerps
namespace Go.Proofs.Ytmaiahkkekkbbaa
open Go.RowKit

theorem two_wts (m n : Int) (v u : Nat) : wts [(m, v), (n, u)] = v + u ∧ lsm [(m, v), (n, u)] = lft m * v + lft n * u := by simp [wts, lsm]
/-- the mean of two goes from the lesser on -/
theorem two_mean {L H v u : Nat} (hlh : L ≤ H) (hs : 0 < v + u) : (L * v + H * u) / (v + u) = L + (H - L) * u / (v + u) := by
  obtain ⟨D, rfl⟩ : ∃ D, H = L + D := ⟨H - L, by omega⟩
  rw [show L * v + (L + D) * u = (v + u) * L + D * u by rw [Nat.add_mul, Nat.add_mul, Nat.mul_comm v L, Nat.mul_comm u L]; omega, Nat.mul_add_div hs, Nat.add_sub_cancel_left]

/-- the average of two, from the lesser on -/
theorem avg_up (m n : Int) (v u : Nat) (w : World) (h1 : TmOk (m, v)) (h2 : TmOk (n, u)) (hmn : m ≤ n) (hs : 0 < v + u) (hS : v + u < 18446744073709551616) :
    (Calls Try.prog 25 #[.int .i64 m, .int .u64 (v : Int), .int .i64 n, .int .u64 (u : Int)] w fun e w' => e = .returned (.tuple #[.int .i64 (m + (((n - m).toNat * u / (v + u) : Nat) : Int)), .int .i64 0]) ∧ Fr S0 w w') ∧
    (Calls Try.prog 25 #[.int .i64 n, .int .u64 (u : Int), .int .i64 m, .int .u64 (v : Int)] w fun e w' => e = .returned (.tuple #[.int .i64 (m + (((n - m).toNat * u / (v + u) : Nat) : Int)), .int .i64 0]) ∧ Fr S0 w w') := by
  have l1 := h1.lo
  have l2 := h1.hi
  have l3 := h2.lo
  have l4 := h2.hi
  simp only at l1 l2 l3 l4
  have e1 : lft n - lft m = (n - m).toNat := by unfold lft; omega
  have hle : lft m ≤ lft n := by unfold lft; omega
  have e2 : ((lft m : Nat) : Int) = m + 9223372036854775808 := by unfold lft; omega
  obtain ⟨t1, t2⟩ := two_wts m n v u
  obtain ⟨t3, t4⟩ := two_wts n m u v
  have k1 : ¬ MeanNo [(m, v), (n, u)] := by unfold MeanNo; rw [t1]; omega
  have k2 : ¬ MeanNo [(n, u), (m, v)] := by unfold MeanNo; rw [t3]; omega
  have q1 : ((lsm [(m, v), (n, u)] / wts [(m, v), (n, u)] : Nat) : Int) - 9223372036854775808 = m + (((n - m).toNat * u / (v + u) : Nat) : Int) := by
    rw [t1, t2, two_mean hle hs, e1]; omega
  have q2 : ((lsm [(n, u), (m, v)] / wts [(n, u), (m, v)] : Nat) : Int) - 9223372036854775808 = m + (((n - m).toNat * u / (v + u) : Nat) : Int) := by
    rw [t3, t4, Nat.add_comm (lft n * u), Nat.add_comm u v, two_mean hle hs, e1]; omega
  exact ⟨(avg_any m n v u w h1 h2).mono fun e w' he => by have h := he.yes k1; rw [q1] at h; exact h,
    (avg_any n m u v w h2 h1).mono fun e w' he => by have h := he.yes k2; rw [q2] at h; exact h⟩

set_option maxRecDepth 100000 in
set_option maxHeartbeats 2000000 in
theorem law_avgs_no (m n : Int) (v u : Nat) (w : World) (h1 : TmOk (m, v)) (h2 : TmOk (n, u)) (hno : v + u = 0 ∨ 18446744073709551616 ≤ v + u) :
    Calls Try.prog 6 #[.int .i64 m, .int .u64 (v : Int), .int .i64 n, .int .u64 (u : Int)] w fun e w' => e = .returned (.bool true) ∧ Fr S0 w w' := by
  have hw := start w
  have n1 := h1.n
  have n2 := h2.n
  simp only at n1 n2
  have k1 : MeanNo [(m, v), (n, u)] := by unfold MeanNo; rw [(two_wts m n v u).1]; exact hno
  have k2 : MeanNo [(n, u), (m, v)] := by unfold MeanNo; rw [(two_wts n m u v).1]; omega
  have HA := Lib.hid (fun W => (avg_any m n v u W h1 h2).mono fun e w' he => he.no k1)
  have HB := Lib.hid (fun W => (avg_any n m u v W h2 h1).mono fun e w' he => he.no k2)
  by_cases c1 : v + u = 0
  · obtain rfl : v = 0 := by omega
    obtain rfl : u = 0 := by omega
    clear hno k1 k2 h1 h2 c1
    go_enter Try.func6, Try.ntmps6
    go_wp2_with fail
    refine hw _ ?_
    intro w1 f1
    clear hw
    go_wp2_with fail
    refine (HA.out _).mono ?_
    rintro e w2 ⟨rfl, f2⟩
    go_wp2_with fail
    refine (HB.out _).mono ?_
    rintro e w3 ⟨rfl, f3⟩
    go_wp2
    go_ret
    exact ⟨rfl, ((f1.trans0 f2).trans0 f3)⟩
  · obtain ⟨S, hS⟩ : ∃ S, v + u = S + 18446744073709551616 := ⟨v + u - 18446744073709551616, by omega⟩
    have wS : IntKind.u64.wrap ((v : Int) + (u : Int)) = (S : Int) := by rw [IntKind.wrap_u64]; omega
    have hlt : S < v := by omega
    clear hno k1 k2 h1 h2 c1 hS
    go_enter Try.func6, Try.ntmps6
    go_wp2_with fail
    refine hw _ ?_
    intro w1 f1
    clear hw
    go_wp2_with fail
    refine (HA.out _).mono ?_
    rintro e w2 ⟨rfl, f2⟩
    go_wp2_with fail
    refine (HB.out _).mono ?_
    rintro e w3 ⟨rfl, f3⟩
    go_wp2
    go_ret
    exact ⟨rfl, ((f1.trans0 f2).trans0 f3)⟩

set_option maxRecDepth 100000 in
set_option maxHeartbeats 4000000 in
theorem law_avgs_yes (m n : Int) (v u : Nat) (w : World) (h1 : TmOk (m, v)) (h2 : TmOk (n, u)) (hs : 0 < v + u) (hS : v + u < 18446744073709551616) :
    Calls Try.prog 6 #[.int .i64 m, .int .u64 (v : Int), .int .i64 n, .int .u64 (u : Int)] w fun e w' => e = .returned (.bool true) ∧ Fr S0 w w' := by
  have hw := start w
  have l1 := h1.lo
  have l2 := h1.hi
  have l3 := h2.lo
  have l4 := h2.hi
  have n1 := h1.n
  have n2 := h2.n
  simp only at l1 l2 l3 l4 n1 n2
  have d1 : decide ((v : Int) + (u : Int) < (v : Int)) = false := decide_eq_false (by omega)
  have d2 : ((v : Int) + (u : Int) == 0) = false := by rw [beq_eq_false_iff_ne]; omega
  by_cases c1 : m ≤ n
  · have c2 : decide (n < m) = false := decide_eq_false (by omega)
    have emin : min m n = m := by omega
    have emax : max m n = n := by omega
    obtain ⟨D, hD⟩ : ∃ D, (n - m).toNat = D := ⟨_, rfl⟩
    have hp := part_le D u (v + u) (by omega)
    have ka := fun W => avg_up m n v u W h1 h2 (by omega) (by omega) (by omega)
    rw [hD] at ka
    have km := fun W => rmuldiv_yes D u (v + u) W (by omega) (by omega) (by omega) (by omega) (by omega)
    obtain ⟨Q, hQ⟩ : ∃ Q, D * u / (v + u) = Q := ⟨_, rfl⟩
    obtain ⟨R, hR⟩ : ∃ R, D * u % (v + u) = R := ⟨_, rfl⟩
    rw [hQ] at hp ka km
    rw [hR, Int.natCast_add] at km
    obtain ⟨A, hA⟩ : ∃ A, m + (Q : Int) = A := ⟨_, rfl⟩
    rw [hA] at ka
    have HA := Lib.hid (fun W => (ka W).1)
    have HB := Lib.hid (fun W => (ka W).2)
    have HM := Lib.hid km
    obtain ⟨UH, wH, eH⟩ := u64_of n
    obtain ⟨UL, wL, eL⟩ := u64_of m
    obtain ⟨UA, wA, eA⟩ := u64_of A
    have wD : IntKind.u64.wrap ((UH : Int) - (UL : Int)) = (D : Int) := by rw [IntKind.wrap_u64]; omega
    have wQ : IntKind.u64.wrap ((UA : Int) - (UL : Int)) = (Q : Int) := by rw [IntKind.wrap_u64]; omega
    have a1 : decide (A < m) = false := decide_eq_false (by omega)
    have a2 : decide (n < A) = false := decide_eq_false (by omega)
    clear h1 h2 ka km hp hQ hR hA hD eH eL eA
    go_enter Try.func6, Try.ntmps6
    go_wp2_with fail
    refine hw _ ?_
    intro w1 f1
    clear hw
    go_wp2_with fail
    refine (HA.out _).mono ?_
    rintro e w2 ⟨rfl, f2⟩
    go_wp2_with fail
    refine (HB.out _).mono ?_
    rintro e w3 ⟨rfl, f3⟩
    go_wp2_with fail
    refine (HM.out _).mono ?_
    rintro e w4 ⟨rfl, f4⟩
    go_wp2
    go_ret
    exact ⟨rfl, (((f1.trans0 f2).trans0 f3).trans0 f4)⟩
  · have c2 : n < m := by omega
    have emin : min m n = n := by omega
    have emax : max m n = m := by omega
    obtain ⟨D, hD⟩ : ∃ D, (m - n).toNat = D := ⟨_, rfl⟩
    have hp := part_le D v (u + v) (by omega)
    have ka := fun W => avg_up n m u v W h2 h1 (by omega) (by omega) (by omega)
    rw [hD] at ka
    have km := fun W => rmuldiv_yes D v (u + v) W (by omega) (by omega) (by omega) (by omega) (by omega)
    rw [Nat.add_comm u v] at hp ka km
    obtain ⟨Q, hQ⟩ : ∃ Q, D * v / (v + u) = Q := ⟨_, rfl⟩
    obtain ⟨R, hR⟩ : ∃ R, D * v % (v + u) = R := ⟨_, rfl⟩
    rw [hQ] at hp ka km
    rw [hR, Int.natCast_add] at km
    obtain ⟨A, hA⟩ : ∃ A, n + (Q : Int) = A := ⟨_, rfl⟩
    rw [hA] at ka
    have HA := Lib.hid (fun W => (ka W).2)
    have HB := Lib.hid (fun W => (ka W).1)
    have HM := Lib.hid km
    obtain ⟨UH, wH, eH⟩ := u64_of m
    obtain ⟨UL, wL, eL⟩ := u64_of n
    obtain ⟨UA, wA, eA⟩ := u64_of A
    have wD : IntKind.u64.wrap ((UH : Int) - (UL : Int)) = (D : Int) := by rw [IntKind.wrap_u64]; omega
    have wQ : IntKind.u64.wrap ((UA : Int) - (UL : Int)) = (Q : Int) := by rw [IntKind.wrap_u64]; omega
    have a1 : decide (A < n) = false := decide_eq_false (by omega)
    have a2 : decide (m < A) = false := decide_eq_false (by omega)
    clear h1 h2 ka km hp hQ hR hA hD eH eL eA
    go_enter Try.func6, Try.ntmps6
    go_wp2_with fail
    refine hw _ ?_
    intro w1 f1
    clear hw
    go_wp2_with fail
    refine (HA.out _).mono ?_
    rintro e w2 ⟨rfl, f2⟩
    go_wp2_with fail
    refine (HB.out _).mono ?_
    rintro e w3 ⟨rfl, f3⟩
    go_wp2_with fail
    refine (HM.out _).mono ?_
    rintro e w4 ⟨rfl, f4⟩
    go_wp2
    go_ret
    exact ⟨rfl, (((f1.trans0 f2).trans0 f3).trans0 f4)⟩
end Go.Proofs.Ytmaiahkkekkbbaa
