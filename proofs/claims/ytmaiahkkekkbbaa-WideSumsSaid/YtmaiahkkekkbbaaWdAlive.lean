/- The document's examples; a wide number's digits. -/
import Derived.Test.YtmaiahkkekkbbaaWdAvg
import Derived.Test.YtmaiahkkekkbbaaWdRef4
namespace Go.Proofs.Ytmaiahkkekkbbaa
open Go.RowKit

set_option maxRecDepth 100000 in
set_option maxHeartbeats 1000000 in
theorem alive_any (w : World) : Calls Try.prog 9 #[] w fun e w' => e = .returned (.bool true) ∧ Fr S0 w w' := by
  have H1 : Hid (∀ W, Calls Try.prog 22 #[.int .u64 9223372036854775808, .int .u64 4, .int .u64 8] W fun e w' => e = .returned (.tuple #[.int .u64 4611686018427387904, .int .u64 0, .int .i64 0]) ∧ Fr S0 W w') :=
    Lib.hid fun W => muldiv_yes 9223372036854775808 4 8 W (by decide) (by decide) (by decide) (by decide) (by decide)
  have H2 : Hid (∀ W, Calls Try.prog 24 #[.int .u64 7, .int .u64 1, .int .u64 2] W fun e w' => e = .returned (.tuple #[.int .u64 4, .int .i64 0]) ∧ Fr S0 W w') := Lib.hid fun W => by
    have h := ceil_any 7 1 2 W (by decide) (by decide) (by decide)
    rw [show ceilR 7 1 2 = some 4 by decide] at h
    exact h
  have H3 : Hid (∀ W, Calls Try.prog 25 #[.int .i64 (-3), .int .u64 1, .int .i64 0, .int .u64 1] W fun e w' => e = .returned (.tuple #[.int .i64 (-2), .int .i64 0]) ∧ Fr S0 W w') := Lib.hid fun W => by
    refine (avg_any (-3) 0 1 1 W ⟨by decide, by decide, by decide⟩ ⟨by decide, by decide, by decide⟩).mono fun e w' he => ?_
    have h := he.yes (by decide)
    rw [show ((lsm [(-3, 1), (0, 1)] / wts [(-3, 1), (0, 1)] : Nat) : Int) - 9223372036854775808 = -2 by decide] at h
    exact h
  have H4 : Hid (∀ W, Calls Try.prog 26 #[.int .i64 (-10), .int .i64 10, .int .u64 1, .int .u64 3] W fun e w' => e = .returned (.tuple #[.int .i64 (-4), .int .i64 0]) ∧ Fr S0 W w') := Lib.hid fun W => by
    have h := lerp_yes (-10) 10 1 3 W ⟨by decide, by decide, by decide⟩ ⟨by decide, by decide, by decide⟩ (by decide) (by decide) (by decide)
    exact h
  have H5 : Hid (∀ W, Calls Try.prog 16 #[.int .u64 9223372036854775808, .int .u64 4] W fun e w' => e = .returned (.agg #[.int .u64 2, .int .u64 0]) ∧ Fr S0 W w') :=
    Lib.hid fun W => mul_any 9223372036854775808 4 W (by decide) (by decide)
  go_enter Try.func9, Try.ntmps9
  go_wp2_with fail
  refine (H1.out _).mono ?_
  rintro e w1 ⟨rfl, f1⟩
  go_wp2_with fail
  refine (H2.out _).mono ?_
  rintro e w2 ⟨rfl, f2⟩
  go_wp2_with fail
  refine (H3.out _).mono ?_
  rintro e w3 ⟨rfl, f3⟩
  go_wp2_with fail
  refine (H4.out _).mono ?_
  rintro e w4 ⟨rfl, f4⟩
  go_wp2_with fail
  refine (H5.out _).mono ?_
  rintro e w5 ⟨rfl, f5⟩
  go_wp2
  go_ret
  exact ⟨rfl, (((f1.trans0 f2).trans0 f3).trans0 f4).trans0 f5⟩
theorem start (w : World) (R) (h : ∀ w1, Fr S0 w w1 → R (.returned (.bool true)) w1) : Calls Try.prog 9 #[] w R :=
  (alive_any w).mono fun e w1 he => by rw [he.1]; exact h w1 he.2

set_option maxRecDepth 100000 in
set_option maxHeartbeats 1000000 in
theorem is_any (p : Option Addr) (c h l n : Nat) (w : World) (hd : Dig w p n) (hh : n / 18446744073709551616 % 18446744073709551616 = h) (hl : n % 18446744073709551616 = l) :
    Calls Try.prog 13 #[.agg #[.int .u64 (h : Int), .int .u64 (l : Int)], .slice p 8 c] w fun e w' => e = .returned (.bool true) ∧ Fr S0 w w' := by
  have HN := Lib.hid (fun W (d : Dig W p n) => rnumber_any p c n 4 W d (by decide))
  have HL := Lib.hid (fun W (d : Dig W p n) => rnumber_any p c n 0 W d (by decide))
  rw [show n / 65536 ^ 4 % 18446744073709551616 = h by rw [show (65536 : Nat) ^ 4 = 18446744073709551616 by decide]; exact hh] at HN
  rw [show n / 65536 ^ 0 % 18446744073709551616 = l by rw [Nat.pow_zero, Nat.div_one]; exact hl] at HL
  have HD := Lib.hid hd
  clear hd hh hl
  go_enter Try.func13, Try.ntmps13
  go_wp2_with fail
  go_quiet ((first
    | (go_at_call_of 31 (Value.int .i64 4); exact (HN.out _ (HD.out.fr0 ((Fr.alloc _ _ _).trans0 (Fr.drewN _ _ _)))).mono fun _ _ h => ⟨h.1, _, h.2.symm⟩)
    | (go_at_call_of 31 (Value.int .i64 0); exact (HL.out _ (HD.out.fr0 ((Fr.alloc _ _ _).trans0 (Fr.drewN _ _ _)))).mono fun _ _ h => ⟨h.1, _, h.2.symm⟩)))
  go_wp2
  go_ret
  exact ⟨rfl, (Fr.alloc _ _ _).trans0 (Fr.drewN _ _ _)⟩
end Go.Proofs.Ytmaiahkkekkbbaa
