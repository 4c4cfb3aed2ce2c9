/- The law on numbers with a sign: true for all numbers. -/
import Derived.Test.YtgjiepbaagmmiaaAlive
namespace Go.Proofs.Ytgjiepbaagmmiaa
open Go.RowKit

set_option maxHeartbeats 1000000 in
theorem law_signs (n m : Int) (w : World) (n0 : -9223372036854775808 ≤ n) (n1 : n < 9223372036854775808) (m0 : 0 ≤ m) (m1 : m < 18446744073709551616) :
    Calls Try.prog 7 #[.int .i64 n, .int .u64 m] w fun e w' => e = .returned (.bool true) ∧ Fr S0 w w' := by
  have hm : meant (IntKind.u64.wrap n) = n := by rw [IntKind.wrap_u64]; unfold meant; split <;> omega
  have hw : 0 ≤ IntKind.u64.wrap n ∧ IntKind.u64.wrap n < 18446744073709551616 := by rw [IntKind.wrap_u64]; omega
  have hu : IntKind.u64.wrap (uns m) = uns m % 18446744073709551616 := IntKind.wrap_u64 _
  have hb := sgn_lt n n0 n1
  have hun : -9223372036854775808 ≤ uns m ∧ uns m < 9223372036854775808 := by unfold uns; split <;> omega
  have HM := Lib.hid hm
  have HW := Lib.hid hw
  have HU := Lib.hid hu
  have HB := Lib.hid hb
  have HUN := Lib.hid hun
  have N0 := Lib.hid n0
  have N1 := Lib.hid n1
  have M0 := Lib.hid m0
  have M1 := Lib.hid m1
  have HS := Lib.hid (uns_sgn n)
  have HT := Lib.hid (sgn_uns m m0)
  clear hm hw hu hb hun n0 n1 m0 m1
  go_enter Try.func7, Try.ntmps7
  go_wp2_with fail
  refine (alive_any w).mono ?_
  rintro e w1 ⟨rfl, hf⟩
  go_wp2_with fail
  refine (sign_any n _ N0.out N1.out).mono ?_
  rintro e w2 ⟨rfl, rfl⟩
  go_wp2_with fail
  refine (refsign_any _ _ HW.out.1 HW.out.2).mono ?_
  rw [HM.out]
  rintro e w2 ⟨rfl, rfl⟩
  go_wp2_with fail
  refine (unsign_any m _ M0.out M1.out).mono ?_
  rintro e w2 ⟨rfl, rfl⟩
  go_wp2_with fail
  refine (refunsign_any m _ M0.out M1.out).mono ?_
  rw [← HU.out]
  rintro e w2 ⟨rfl, rfl⟩
  go_wp2_with fail
  refine (sign_any n _ N0.out N1.out).mono ?_
  rintro e w2 ⟨rfl, rfl⟩
  go_wp2_with fail
  refine (unsign_any (sgn n) _ HB.out.1 HB.out.2).mono ?_
  rw [HS.out]
  rintro e w2 ⟨rfl, rfl⟩
  go_wp2_with fail
  refine (unsign_any m _ M0.out M1.out).mono ?_
  rintro e w2 ⟨rfl, rfl⟩
  go_wp2_with fail
  refine (sign_any (uns m) _ HUN.out.1 HUN.out.2).mono ?_
  rw [HT.out]
  rintro e w2 ⟨rfl, rfl⟩
  go_wp2
  go_ret
  exact ⟨rfl, hf⟩
end Go.Proofs.Ytgjiepbaagmmiaa
