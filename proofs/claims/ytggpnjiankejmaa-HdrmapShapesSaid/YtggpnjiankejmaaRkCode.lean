/- What the landed functions of layer 11 do: parts, divisors, powers, ranks and spots. -/
import Derived.Test.YtggpnjiankejmaaBytes
import Derived.Test.YtggpnjiankejmaaWdShelf
import Derived.Test.YtggpnjiankejmaaRkMath
namespace Go.Proofs.Ytggpnjiankejmaa
open Go.RowKit

set_option maxRecDepth 100000 in
set_option maxHeartbeats 400000 in
theorem power_no (d : Int) (w : World) (h : d < 0 ∨ 19 < d) :
    Calls Try.prog 42 #[.int .i64 d] w fun e w' => e = .returned (.tuple #[.int .u64 0, .int .i64 1]) ∧ Fr S0 w w' := by
  by_cases h0 : d < 0
  · clear h
    go_enter Try.func42, Try.ntmps42
    go_wp2
    go_ret2
    exact ⟨rfl, Fr.refl _ _⟩
  · have h1 : d > 19 := by omega
    clear h
    go_enter Try.func42, Try.ntmps42
    go_wp2
    go_ret2
    exact ⟨rfl, Fr.refl _ _⟩

theorem pow_step (i : Nat) (h : i < 19) : 10 ^ i < 1000000000000000001 := by
  have := Nat.pow_le_pow_right (show 0 < 10 by decide) (show i ≤ 18 by omega)
  have e : (10 : Nat) ^ 18 = 1000000000000000000 := by decide
  omega

set_option maxRecDepth 100000 in
set_option maxHeartbeats 400000 in
theorem power_yes (d : Nat) (w : World) (h : d ≤ 19) :
    Calls Try.prog 42 #[.int .i64 (d : Int)] w fun e w' => e = .returned (.tuple #[.int .u64 (10 ^ d : Nat), .int .i64 0]) ∧ Fr S0 w w' := by
  obtain ⟨T, hT⟩ : ∃ T, 10 ^ d = T := ⟨_, rfl⟩
  have HT := Lib.hid hT
  rw [hT]
  clear hT
  have h1 : decide (19 < d) = false := decide_eq_false (by omega)
  go_enter Try.func42, Try.ntmps42
  go_wp2
  go_loopw [4, 12] (fun x y wr => ∃ m i : Nat, x = .int .u64 (m : Int) ∧ y = .int .i64 (i : Int) ∧ i ≤ d ∧ Hid (10 ^ i = m) ∧ w = wr) (fun _ y _ => d - (intOf y).toNat)
  case atStart => exact ⟨1, 0, rfl, rfl, by omega, Lib.hid rfl, rfl⟩
  case round =>
    obtain ⟨m, i, rfl, rfl, hi, hm, rfl⟩ := hrel
    by_cases hlt : (i : Int) < (d : Int)
    · have hs := pow_step i (by omega)
      have HN : Hid (10 ^ (i + 1) = m * 10) := Lib.hid (by rw [Nat.pow_succ, hm.out])
      rw [hm.out] at hs
      clear hm
      go_wp2
      go_roundw
      case rel => exact ⟨m * 10, i + 1, by go_num, by go_num, by omega, HN, by trivial⟩
      case measure => simp [intOf]; omega
    · obtain rfl : i = d := by omega
      have e := hm.out
      rw [HT.out] at e
      subst e
      clear hm HT
      go_wp2
      go_ret2
      exact ⟨rfl, Fr.refl _ _⟩

end Go.Proofs.Ytggpnjiankejmaa
