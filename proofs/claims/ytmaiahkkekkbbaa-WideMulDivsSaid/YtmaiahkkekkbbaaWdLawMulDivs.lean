/- The law on products' quotients. -/
import Derived.Test.YtmaiahkkekkbbaaWdAlive
namespace Go.Proofs.Ytmaiahkkekkbbaa
open Go.RowKit

set_option maxRecDepth 100000 in
set_option maxHeartbeats 2000000 in
theorem law_muldivs (a b d : Nat) (w : World) (ha : a < 18446744073709551616) (hb : b < 18446744073709551616) (h64 : d < 18446744073709551616) :
    Calls Try.prog 5 #[.int .u64 (a : Int), .int .u64 (b : Int), .int .u64 (d : Int)] w fun e w' => e = .returned (.bool true) ∧ Fr S0 w w' := by
  have hw := start w
  have hc := fun W => ceil_any a b d W ha hb h64
  unfold optV ceilR at hc
  by_cases hno : d = 0 ∨ 18446744073709551616 ≤ a * b / d
  · have HM := Lib.hid (fun W => muldiv_no a b d W ha hb h64 hno)
    have HR := Lib.hid (fun W => rmuldiv_no a b d W ha hb h64 hno)
    rw [if_pos hno] at hc
    have HC : Hid (∀ W, Calls Try.prog 24 #[.int .u64 (a : Int), .int .u64 (b : Int), .int .u64 (d : Int)] W fun e w' => e = .returned (.tuple #[.int .u64 0, .int .i64 100]) ∧ Fr S0 W w') := Lib.hid hc
    clear hno hc ha hb h64
    go_enter Try.func5, Try.ntmps5
    go_wp2_with fail
    refine hw _ ?_
    intro w1 f1
    clear hw
    go_wp2_with fail
    refine (HM.out _).mono ?_
    rintro e w2 ⟨rfl, f2⟩
    go_wp2_with fail
    refine (HR.out _).mono ?_
    rintro e w3 ⟨rfl, f3⟩
    go_wp2_with fail
    refine (HC.out _).mono ?_
    rintro e w4 ⟨rfl, f4⟩
    go_wp2
    go_ret
    exact ⟨rfl, ((f1.trans0 f2).trans0 f3).trans0 f4⟩
  · have hd : 0 < d := by omega
    have hy : a * b / d < 18446744073709551616 := by omega
    have HM := Lib.hid (fun W => muldiv_yes a b d W ha hb h64 hd hy)
    have HR := Lib.hid (fun W => rmuldiv_yes a b d W ha hb h64 hd hy)
    rw [if_neg hno] at hc
    obtain ⟨Q, hQ⟩ : ∃ Q, a * b / d = Q := ⟨_, rfl⟩
    obtain ⟨R, hR⟩ : ∃ R, a * b % d = R := ⟨_, rfl⟩
    rw [hQ, hR] at HM HR hc
    rw [hQ] at hy
    clear hno hQ hR ha hb h64 hd
    by_cases r0 : R = 0
    · rw [if_pos r0] at hc
      have HC : Hid (∀ W, Calls Try.prog 24 #[.int .u64 (a : Int), .int .u64 (b : Int), .int .u64 (d : Int)] W fun e w' => e = .returned (.tuple #[.int .u64 (Q : Int), .int .i64 0]) ∧ Fr S0 W w') := Lib.hid hc
      subst r0
      clear hc
      go_enter Try.func5, Try.ntmps5
      go_wp2_with fail
      refine hw _ ?_
      intro w1 f1
      clear hw
      go_wp2_with fail
      refine (HM.out _).mono ?_
      rintro e w2 ⟨rfl, f2⟩
      go_wp2_with fail
      refine (HR.out _).mono ?_
      rintro e w3 ⟨rfl, f3⟩
      go_wp2_with fail
      refine (HC.out _).mono ?_
      rintro e w4 ⟨rfl, f4⟩
      go_wp2
      go_ret
      exact ⟨rfl, ((f1.trans0 f2).trans0 f3).trans0 f4⟩
    · rw [if_neg r0] at hc
      have r1 : ((R : Int) == 0) = false := by rw [beq_eq_false_iff_ne]; omega
      by_cases q0 : Q = 18446744073709551615
      · rw [if_pos q0] at hc
        have HC : Hid (∀ W, Calls Try.prog 24 #[.int .u64 (a : Int), .int .u64 (b : Int), .int .u64 (d : Int)] W fun e w' => e = .returned (.tuple #[.int .u64 0, .int .i64 100]) ∧ Fr S0 W w') := Lib.hid hc
        have q1 : ((Q : Int) == 18446744073709551615) = true := by rw [beq_iff_eq]; omega
        clear hc q0 r0
        go_enter Try.func5, Try.ntmps5
        go_wp2_with fail
        refine hw _ ?_
        intro w1 f1
        clear hw
        go_wp2_with fail
        refine (HM.out _).mono ?_
        rintro e w2 ⟨rfl, f2⟩
        go_wp2_with fail
        refine (HR.out _).mono ?_
        rintro e w3 ⟨rfl, f3⟩
        go_wp2_with fail
        refine (HC.out _).mono ?_
        rintro e w4 ⟨rfl, f4⟩
        go_wp2
        go_ret
        exact ⟨rfl, ((f1.trans0 f2).trans0 f3).trans0 f4⟩
      · rw [if_neg q0] at hc
        have HC : Hid (∀ W, Calls Try.prog 24 #[.int .u64 (a : Int), .int .u64 (b : Int), .int .u64 (d : Int)] W fun e w' => e = .returned (.tuple #[.int .u64 ((Q : Int) + 1), .int .i64 0]) ∧ Fr S0 W w') := Lib.hid hc
        have q1 : ((Q : Int) == 18446744073709551615) = false := by rw [beq_eq_false_iff_ne]; omega
        have q2 : Q < 18446744073709551615 := by omega
        clear hc q0 r0
        go_enter Try.func5, Try.ntmps5
        go_wp2_with fail
        refine hw _ ?_
        intro w1 f1
        clear hw
        go_wp2_with fail
        refine (HM.out _).mono ?_
        rintro e w2 ⟨rfl, f2⟩
        go_wp2_with fail
        refine (HR.out _).mono ?_
        rintro e w3 ⟨rfl, f3⟩
        go_wp2_with fail
        refine (HC.out _).mono ?_
        rintro e w4 ⟨rfl, f4⟩
        go_wp2
        go_ret
        exact ⟨rfl, ((f1.trans0 f2).trans0 f3).trans0 f4⟩
end Go.Proofs.Ytmaiahkkekkbbaa
