/- The law on what lies between two numbers. -/
import Derived.Test.YtmaiahkkekkbbaaWdAlive
namespace Go.Proofs.Ytmaiahkkekkbbaa
open Go.RowKit

theorem u64_of (v : Int) : ∃ u : Nat, IntKind.u64.wrap v = (u : Int) ∧ (u : Int) = v % 18446744073709551616 :=
  ⟨(IntKind.u64.wrap v).toNat, by rw [IntKind.wrap_u64]; omega, by rw [IntKind.wrap_u64]; omega⟩
theorem part_mono (D a b o : Nat) (h : a ≤ b) : D * a / o ≤ D * b / o := Nat.div_le_div_right (Nat.mul_le_mul_left D h)

set_option maxRecDepth 100000 in
set_option maxHeartbeats 2000000 in
theorem law_lerps_no (low high : Int) (at_ next of_ : Nat) (w : World) (h1 : TmOk (low, at_)) (h2 : TmOk (high, of_)) (hno : high < low ∨ of_ < at_ ∨ of_ = 0) :
    Calls Try.prog 7 #[.int .i64 low, .int .i64 high, .int .u64 (at_ : Int), .int .u64 (next : Int), .int .u64 (of_ : Int)] w fun e w' => e = .returned (.bool true) ∧ Fr S0 w w' := by
  have hw := start w
  have HL := Lib.hid (fun W => lerp_no low high at_ of_ W h1 h2 hno)
  by_cases c1 : high < low
  · clear h1 h2 hno
    go_enter Try.func7, Try.ntmps7
    go_wp2_with fail
    refine hw _ ?_
    intro w1 f1
    clear hw
    go_wp2_with fail
    refine (HL.out _).mono ?_
    rintro e w2 ⟨rfl, f2⟩
    go_wp2
    go_ret
    exact ⟨rfl, (f1.trans0 f2)⟩
  · have d1 : decide (high < low) = false := decide_eq_false c1
    by_cases c2 : (at_ : Int) > (of_ : Int)
    · clear h1 h2 hno
      go_enter Try.func7, Try.ntmps7
      go_wp2_with fail
      refine hw _ ?_
      intro w1 f1
      clear hw
      go_wp2_with fail
      refine (HL.out _).mono ?_
      rintro e w2 ⟨rfl, f2⟩
      go_wp2
      go_ret
      exact ⟨rfl, (f1.trans0 f2)⟩
    · have d2 : decide (of_ < at_) = false := decide_eq_false (by omega)
      obtain rfl : of_ = 0 := by omega
      clear h1 h2 hno
      go_enter Try.func7, Try.ntmps7
      go_wp2_with fail
      refine hw _ ?_
      intro w1 f1
      clear hw
      go_wp2_with fail
      refine (HL.out _).mono ?_
      rintro e w2 ⟨rfl, f2⟩
      go_wp2
      go_ret
      exact ⟨rfl, (f1.trans0 f2)⟩

set_option maxRecDepth 100000 in
set_option maxHeartbeats 4000000 in
theorem law_lerps_yes (low high : Int) (at_ next of_ : Nat) (w : World) (h1 : TmOk (low, at_)) (h2 : TmOk (high, of_)) (hn : next < 18446744073709551616) (hlh : low ≤ high) (hao : at_ ≤ of_) (ho : 0 < of_) :
    Calls Try.prog 7 #[.int .i64 low, .int .i64 high, .int .u64 (at_ : Int), .int .u64 (next : Int), .int .u64 (of_ : Int)] w fun e w' => e = .returned (.bool true) ∧ Fr S0 w w' := by
  have hw := start w
  have l1 := h1.lo
  have l2 := h1.hi
  have l3 := h2.lo
  have l4 := h2.hi
  have n1 := h1.n
  have n2 := h2.n
  simp only at l1 l2 l3 l4 n1 n2
  obtain ⟨D, hD⟩ : ∃ D, (high - low).toNat = D := ⟨_, rfl⟩
  have hp := part_le D at_ of_ hao
  have ka := lerp_yes low high at_ of_
  have kf := lerp_yes low high 0 of_
  have kl := lerp_yes low high of_ of_
  rw [hD] at ka kf kl
  rw [Nat.mul_zero, Nat.zero_div] at kf
  rw [Nat.mul_div_cancel _ ho] at kl
  have HM := Lib.hid (fun W => rmuldiv_yes D at_ of_ W (by omega) n1 n2 ho (by omega))
  obtain ⟨Q, hQ⟩ : ∃ Q, D * at_ / of_ = Q := ⟨_, rfl⟩
  obtain ⟨R, hR⟩ : ∃ R, D * at_ % of_ = R := ⟨_, rfl⟩
  rw [hQ] at hp ka HM
  rw [hR] at HM
  obtain ⟨A, hA⟩ : ∃ A, low + (Q : Int) = A := ⟨_, rfl⟩
  rw [hA] at ka
  have HA := Lib.hid (fun W => ka W h1 h2 hlh hao ho)
  have HF : Hid (∀ W, Calls Try.prog 26 #[.int .i64 low, .int .i64 high, .int .u64 0, .int .u64 (of_ : Int)] W fun e w' => e = .returned (.tuple #[.int .i64 low, .int .i64 0]) ∧ Fr S0 W w') := Lib.hid fun W => by
    have h := kf W ⟨l1, l2, show (0 : Nat) < 18446744073709551616 by decide⟩ h2 hlh (by omega) ho
    rw [show low + ((0 : Nat) : Int) = low by omega] at h
    exact h
  have HL : Hid (∀ W, Calls Try.prog 26 #[.int .i64 low, .int .i64 high, .int .u64 (of_ : Int), .int .u64 (of_ : Int)] W fun e w' => e = .returned (.tuple #[.int .i64 high, .int .i64 0]) ∧ Fr S0 W w') := Lib.hid fun W => by
    have h := kl W ⟨l1, l2, n2⟩ h2 hlh (Nat.le_refl _) ho
    rw [show low + (D : Int) = high by omega] at h
    exact h
  obtain ⟨UH, wH, eH⟩ := u64_of high
  obtain ⟨UL, wL, eL⟩ := u64_of low
  obtain ⟨UA, wA, eA⟩ := u64_of A
  have wD : IntKind.u64.wrap ((UH : Int) - (UL : Int)) = (D : Int) := by rw [IntKind.wrap_u64]; omega
  have wQ : IntKind.u64.wrap ((UA : Int) - (UL : Int)) = (Q : Int) := by rw [IntKind.wrap_u64]; omega
  have d1 : decide (high < low) = false := decide_eq_false (by omega)
  have d2 : decide (of_ < at_) = false := decide_eq_false (by omega)
  have d3 : ((of_ : Int) == 0) = false := by rw [beq_eq_false_iff_ne]; omega
  by_cases c1 : (next : Int) > (of_ : Int)
  · have HB := Lib.hid (fun W => lerp_no low high next of_ W ⟨l1, l2, hn⟩ h2 (.inr (.inl (by omega))))
    clear h1 h2 ka kf kl hp hQ hR hA hD eH eL eA hao hlh ho
    go_enter Try.func7, Try.ntmps7
    go_wp2_with fail
    refine hw _ ?_
    intro w1 f1
    clear hw
    go_wp2_with fail
    refine (HA.out _).mono ?_
    rintro e w2 ⟨rfl, f2⟩
    go_wp2_with fail
    refine (HM.out _).mono ?_
    rintro e w3 ⟨rfl, f3⟩
    go_wp2_with fail
    refine (HF.out _).mono ?_
    rintro e w4 ⟨rfl, f4⟩
    go_wp2_with fail
    refine (HL.out _).mono ?_
    rintro e w5 ⟨rfl, f5⟩
    go_wp2_with fail
    refine (HB.out _).mono ?_
    rintro e w6 ⟨rfl, f6⟩
    go_wp2
    go_ret
    exact ⟨rfl, (((((f1.trans0 f2).trans0 f3).trans0 f4).trans0 f5).trans0 f6)⟩
  · have d4 : decide (of_ < next) = false := decide_eq_false (by omega)
    have kb := lerp_yes low high next of_
    rw [hD] at kb
    have m1 := part_mono D next at_ of_
    have m2 := part_mono D at_ next of_
    obtain ⟨Q2, hQ2⟩ : ∃ Q, D * next / of_ = Q := ⟨_, rfl⟩
    rw [hQ] at m1 m2
    rw [hQ2] at kb m1 m2
    obtain ⟨B, hB⟩ : ∃ B, low + (Q2 : Int) = B := ⟨_, rfl⟩
    rw [hB] at kb
    have HB := Lib.hid (fun W => kb W ⟨l1, l2, hn⟩ h2 hlh (by omega) ho)
    have e1 : next ≤ at_ → B ≤ A := fun h => by have := m1 h; omega
    have e2 : at_ ≤ next → A ≤ B := fun h => by have := m2 h; omega
    clear h1 h2 ka kf kl hp hQ hR hA hD eH eL eA hao hlh ho kb m1 m2 hQ2 hB
    by_cases t1 : next < at_
    · have b1 := e1 (by omega)
      have t2 : decide (at_ < next) = false := decide_eq_false (by omega)
      clear e1 e2
      go_enter Try.func7, Try.ntmps7
      go_wp2_with fail
      refine hw _ ?_
      intro w1 f1
      clear hw
      go_wp2_with fail
      refine (HA.out _).mono ?_
      rintro e w2 ⟨rfl, f2⟩
      go_wp2_with fail
      refine (HM.out _).mono ?_
      rintro e w3 ⟨rfl, f3⟩
      go_wp2_with fail
      refine (HF.out _).mono ?_
      rintro e w4 ⟨rfl, f4⟩
      go_wp2_with fail
      refine (HL.out _).mono ?_
      rintro e w5 ⟨rfl, f5⟩
      go_wp2_with fail
      refine (HB.out _).mono ?_
      rintro e w6 ⟨rfl, f6⟩
      go_wp2
      go_ret
      exact ⟨rfl, (((((f1.trans0 f2).trans0 f3).trans0 f4).trans0 f5).trans0 f6)⟩
    · have t1d : decide (next < at_) = false := decide_eq_false t1
      have b2 := e2 (by omega)
      by_cases t2 : at_ < next
      · clear e1 e2
        go_enter Try.func7, Try.ntmps7
        go_wp2_with fail
        refine hw _ ?_
        intro w1 f1
        clear hw
        go_wp2_with fail
        refine (HA.out _).mono ?_
        rintro e w2 ⟨rfl, f2⟩
        go_wp2_with fail
        refine (HM.out _).mono ?_
        rintro e w3 ⟨rfl, f3⟩
        go_wp2_with fail
        refine (HF.out _).mono ?_
        rintro e w4 ⟨rfl, f4⟩
        go_wp2_with fail
        refine (HL.out _).mono ?_
        rintro e w5 ⟨rfl, f5⟩
        go_wp2_with fail
        refine (HB.out _).mono ?_
        rintro e w6 ⟨rfl, f6⟩
        go_wp2
        go_ret
        exact ⟨rfl, (((((f1.trans0 f2).trans0 f3).trans0 f4).trans0 f5).trans0 f6)⟩
      · have t2d : decide (at_ < next) = false := decide_eq_false t2
        have b1 := e1 (by omega)
        clear e1 e2
        go_enter Try.func7, Try.ntmps7
        go_wp2_with fail
        refine hw _ ?_
        intro w1 f1
        clear hw
        go_wp2_with fail
        refine (HA.out _).mono ?_
        rintro e w2 ⟨rfl, f2⟩
        go_wp2_with fail
        refine (HM.out _).mono ?_
        rintro e w3 ⟨rfl, f3⟩
        go_wp2_with fail
        refine (HF.out _).mono ?_
        rintro e w4 ⟨rfl, f4⟩
        go_wp2_with fail
        refine (HL.out _).mono ?_
        rintro e w5 ⟨rfl, f5⟩
        go_wp2_with fail
        refine (HB.out _).mono ?_
        rintro e w6 ⟨rfl, f6⟩
        go_wp2
        go_ret
        exact ⟨rfl, (((((f1.trans0 f2).trans0 f3).trans0 f4).trans0 f5).trans0 f6)⟩
end Go.Proofs.Ytmaiahkkekkbbaa
