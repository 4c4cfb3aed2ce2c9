/- What the landed functions of layer 11 do: parts, divisors, powers, ranks and spots. -/
import Derived.Test.YtbpfmjekpjfceaaWdCode
import Derived.Test.YtbpfmjekpjfceaaRkMath
namespace Go.Proofs.Ytbpfmjekpjfceaa
open Go.RowKit

set_option maxRecDepth 100000 in
set_option maxHeartbeats 400000 in
theorem check_yes (a d : Nat) (w : World) (hd : 0 < d) (h : a ≤ d) :
    Calls Try.prog 93 #[.int .u64 (a : Int), .int .u64 (d : Int)] w fun e w' => e = .returned (.int .i64 0) ∧ Fr S0 w w' := by
  have hd0 : ((d : Int) == 0) = false := by rw [beq_eq_false_iff_ne]; omega
  have hh : decide (d < a) = false := decide_eq_false (by omega)
  clear hd h
  go_enter Try.func93, Try.ntmps93
  go_wp2
  go_ret
  exact ⟨rfl, Fr.refl _ _⟩

set_option maxRecDepth 100000 in
set_option maxHeartbeats 400000 in
theorem check_no (a d : Nat) (w : World) (h : d = 0 ∨ d < a) :
    Calls Try.prog 93 #[.int .u64 (a : Int), .int .u64 (d : Int)] w fun e w' => e = .returned (.int .i64 7) ∧ Fr S0 w w' := by
  by_cases h0 : d = 0
  · subst h0
    clear h
    go_enter Try.func93, Try.ntmps93
    go_wp2
    go_ret
    exact ⟨rfl, Fr.refl _ _⟩
  · have hd0 : ((d : Int) == 0) = false := by rw [beq_eq_false_iff_ne]; omega
    have hh : decide (d < a) = true := decide_eq_true (by omega)
    clear h h0
    go_enter Try.func93, Try.ntmps93
    go_wp2
    go_ret
    exact ⟨rfl, Fr.refl _ _⟩

theorem pow_step (i : Nat) (h : i < 19) : 10 ^ i < 1000000000000000001 := by
  have := Nat.pow_le_pow_right (show 0 < 10 by decide) (show i ≤ 18 by omega)
  have e : (10 : Nat) ^ 18 = 1000000000000000000 := by decide
  omega

end Go.Proofs.Ytbpfmjekpjfceaa
