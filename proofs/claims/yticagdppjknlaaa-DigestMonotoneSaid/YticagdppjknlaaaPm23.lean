/- RkRef -/
import Derived.Test.YticagdppjknlaaaPm1
import Derived.Test.YticagdppjknlaaaPm2
import Derived.Test.YticagdppjknlaaaPm3
import Derived.Test.YticagdppjknlaaaPm4
import Derived.Test.YticagdppjknlaaaPm5
import Derived.Test.YticagdppjknlaaaPm6
import Derived.Test.YticagdppjknlaaaPm10
import Derived.Test.YticagdppjknlaaaPm14
import Derived.Test.YticagdppjknlaaaPm15
import Derived.Test.YticagdppjknlaaaPm16
import Derived.Laws.Externs
import Derived.Shelf.Spec.BitsCarry
import Derived.Deep.CutBlock
import Derived.Deep.CutRange
import Derived.Deep.DeepCutAuto
import Derived.Lib.BitFns
import Derived.Shelf.Small.Bits
import Derived.Shelf.Strconv.Itoa0
import Derived.Shelf.Bits.Mul64
import Derived.Test.YticagdppjknlaaaRows
import Derived.WalkKit
import Derived.WalkSpells
import Derived.WalkLawsBesides
import Derived.Deep.QuietTactic
import Derived.BigQuiet
import Derived.RegionTactic
import Derived.Deep.AppendLies
import Derived.Deep.RegionLaw
import Derived.Laws.ResultCell
import Derived.Laws.EntriesVeiled
import Derived.Lib.Hide
import Derived.Laws.BytesArg
import Derived.Lib.SlBytesConst
import Derived.Maps.AppendAt
import Derived.Laws.AppendOwnNone
import Derived.StillTailTactics
set_option maxRecDepth 100000
set_option maxHeartbeats 8000000
namespace Go.Proofs.Yticagdppjknlaaa
open Go.RowKit
def cmpF (a b c d : Nat) : Int := if b = 0 ∨ d = 0 then 0 else cmpI (a * d) (c * b)
theorem rcmpp_zero (a b c d : Nat) (w : World) (h : b = 0 ∨ d = 0) :
    Calls Try.prog 26 #[.int .u64 (a : Int), .int .u64 (b : Int), .int .u64 (c : Int), .int .u64 (d : Int)] w fun e w' => e = .returned (.int .i64 0) ∧ Fr S0 w w' := by
  by_cases h0 : b = 0
  · subst h0
    clear h
    go_enter Try.func26, Try.ntmps26
    go_wp2
    go_ret
    exact ⟨rfl, Fr.refl _ _⟩
  · have hb0 : ((b : Int) == 0) = false := by rw [beq_eq_false_iff_ne]; omega
    obtain rfl : d = 0 := by omega
    clear h h0
    go_enter Try.func26, Try.ntmps26
    go_wp2
    go_ret
    exact ⟨rfl, Fr.refl _ _⟩
theorem prod_128 {a b : Nat} (ha : a < 18446744073709551616) (hb : b < 18446744073709551616) : a * b < 340282366920938463463374607431768211456 := by
  have := Nat.mul_le_mul (show a ≤ 18446744073709551615 by omega) (show b ≤ 18446744073709551615 by omega)
  omega
theorem cmpr_eq (x y : Nat) : cmpR x y = cmpI x y := rfl
theorem rcmpf_any (a b c d : Nat) (w : World) (ha : a < 18446744073709551616) (hb : b < 18446744073709551616) (hc : c < 18446744073709551616) (hd : d < 18446744073709551616) :
    Calls Try.prog 26 #[.int .u64 (a : Int), .int .u64 (b : Int), .int .u64 (c : Int), .int .u64 (d : Int)] w fun e w' => e = .returned (.int .i64 (cmpF a b c d)) ∧ Fr S0 w w' := by
  unfold cmpF
  by_cases h : b = 0 ∨ d = 0
  · rw [if_pos h]
    exact rcmpp_zero a b c d w h
  · rw [if_neg h]
    have hb0 : ((b : Int) == 0) = false := by rw [beq_eq_false_iff_ne]; omega
    have hd0 : ((d : Int) == 0) = false := by rw [beq_eq_false_iff_ne]; omega
    have HM1 := Lib.hid (fun W => rmul_any a d W ha hd)
    have HM2 := Lib.hid (fun W => rmul_any c b W hc hb)
    have HB := Lib.hid (And.intro (prod_128 ha hd) (prod_128 hc hb))
    obtain ⟨X, hX⟩ : ∃ X, a * d = X := ⟨_, rfl⟩
    obtain ⟨Y, hY⟩ : ∃ Y, c * b = Y := ⟨_, rfl⟩
    rw [hX] at HM1 HB ⊢
    rw [hY] at HM2 HB ⊢
    have HC := Lib.hid (fun p q c d W h1 h2 => rcmp_any p q c d X Y W h1 h2 HB.out.1 HB.out.2)
    rw [← cmpr_eq]
    obtain ⟨R, hR⟩ : ∃ R, cmpR X Y = R := ⟨_, rfl⟩
    rw [hR] at HC ⊢
    clear hX hY hR ha hb hc hd h HB
    go_enter Try.func26, Try.ntmps26
    go_wp2_with fail
    refine (HM1.out _).mono ?_
    rintro e w1 ⟨v1, rfl, p1, c1, rfl, d1, f1⟩
    go_wp2_with fail
    refine (HM2.out _).mono ?_
    rintro e w2 ⟨v2, rfl, p2, c2, rfl, d2, f2⟩
    have D1 := Lib.hid (d1.fr0 f2)
    have D2 := Lib.hid d2
    clear d1 d2
    go_wp2_with fail
    refine (HC.out _ _ _ _ _ D1.out D2.out).mono ?_
    rintro e w3 ⟨rfl, n3, rfl⟩
    go_wp2
    go_ret
    exact ⟨rfl, (f1.trans0 f2).trans0 (Fr.drewN _ _ _)⟩
section
variable (a d n : Nat) (w : World)
end
end Go.Proofs.Yticagdppjknlaaa
