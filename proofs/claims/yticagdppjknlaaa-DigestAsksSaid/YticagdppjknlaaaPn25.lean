/- RkRef -/
import Derived.Test.YticagdppjknlaaaPn1
import Derived.Test.YticagdppjknlaaaPn2
import Derived.Test.YticagdppjknlaaaPn3
import Derived.Test.YticagdppjknlaaaPn4
import Derived.Test.YticagdppjknlaaaPn5
import Derived.Test.YticagdppjknlaaaPn6
import Derived.Test.YticagdppjknlaaaPn10
import Derived.Test.YticagdppjknlaaaPn14
import Derived.Test.YticagdppjknlaaaPn15
import Derived.Test.YticagdppjknlaaaPn16
import Derived.Laws.Externs
import Derived.Shelf.Spec.BitsCarry
import Derived.Deep.CutBlock
import Derived.Deep.CutRange
import Derived.Deep.DeepCutAuto
import Derived.Lib.BitFns
import Derived.Shelf.Small.Bits
import Derived.Shelf.Strconv.Itoa0
import Derived.Shelf.Bits.Mul64
import Derived.Test.YticagdppjknlaaaRows
import Derived.WalkKit
import Derived.WalkSpells
import Derived.WalkLawsBesides
import Derived.Deep.QuietTactic
import Derived.BigQuiet
import Derived.RegionTactic
import Derived.Deep.AppendLies
import Derived.Deep.RegionLaw
import Derived.Laws.ResultCell
import Derived.Laws.EntriesVeiled
import Derived.Lib.Hide
import Derived.Laws.BytesArg
import Derived.Lib.SlBytesConst
import Derived.Maps.AppendAt
import Derived.Laws.AppendOwnNone
import Derived.StillTailTactics
set_option maxRecDepth 100000
set_option maxHeartbeats 8000000
namespace Go.Proofs.Yticagdppjknlaaa
open Go.RowKit
def ckN (a d : Nat) : Nat := if d = 0 ∨ d < a then 7 else 0
theorem rcheck_any (a d : Nat) (w : World) :
    Calls Try.prog 50 #[.int .u64 (a : Int), .int .u64 (d : Int)] w fun e w' => e = .returned (.int .i64 (ckN a d : Nat)) ∧ Fr S0 w w' := by
  unfold ckN
  by_cases h0 : d = 0
  · subst h0
    rw [if_pos (.inl rfl)]
    go_enter Try.func50, Try.ntmps50
    go_wp2
    go_ret
    exact ⟨rfl, Fr.refl _ _⟩
  · have hd0 : ((d : Int) == 0) = false := by rw [beq_eq_false_iff_ne]; omega
    by_cases h : d < a
    · rw [if_pos (.inr h)]
      have hh : decide (d < a) = true := decide_eq_true h
      clear h h0
      go_enter Try.func50, Try.ntmps50
      go_wp2
      go_ret
      exact ⟨rfl, Fr.refl _ _⟩
    · rw [if_neg (by omega)]
      have hh : decide (d < a) = false := decide_eq_false h
      clear h h0
      go_enter Try.func50, Try.ntmps50
      go_wp2
      go_ret
      exact ⟨rfl, Fr.refl _ _⟩
section
variable (a d n : Nat) (w : World)
theorem rspot_no (h : d = 0 ∨ d < a) :
    Calls Try.prog 20 #[.int .u64 (a : Int), .int .u64 (d : Int), .int .u64 (n : Int)] w fun e w' => e = .returned (.tuple #[.int .u64 0, .int .i64 7]) ∧ Fr S0 w w' := by
  have HC := Lib.hid (fun W => rcheck_any a d W)
  rw [show ckN a d = 7 by unfold ckN; exact if_pos h] at HC
  clear h
  go_enter Try.func20, Try.ntmps20
  go_wp2_with fail
  refine (HC.out _).mono ?_
  rintro e w1 ⟨rfl, f1⟩
  go_wp2
  go_ret2
  exact ⟨rfl, f1⟩
theorem rspot_none (hd : 0 < d) (h : a ≤ d) :
    Calls Try.prog 20 #[.int .u64 (a : Int), .int .u64 (d : Int), .int .u64 0] w fun e w' => e = .returned (.tuple #[.int .u64 0, .int .i64 8]) ∧ Fr S0 w w' := by
  have HC := Lib.hid (fun W => rcheck_any a d W)
  rw [show ckN a d = 0 by unfold ckN; exact if_neg (by omega)] at HC
  clear h hd
  go_enter Try.func20, Try.ntmps20
  go_wp2_with fail
  refine (HC.out _).mono ?_
  rintro e w1 ⟨rfl, f1⟩
  go_wp2
  go_ret2
  exact ⟨rfl, f1⟩
theorem rspot_cap (hn : 4611686018427387904 < n) (hd : 0 < d) (h : a ≤ d) :
    Calls Try.prog 20 #[.int .u64 (a : Int), .int .u64 (d : Int), .int .u64 (n : Int)] w fun e w' => e = .returned (.tuple #[.int .u64 0, .int .i64 6]) ∧ Fr S0 w w' := by
  have HC := Lib.hid (fun W => rcheck_any a d W)
  rw [show ckN a d = 0 by unfold ckN; exact if_neg (by omega)] at HC
  have hn0 : ((n : Int) == 0) = false := by rw [beq_eq_false_iff_ne]; omega
  clear h hd
  go_enter Try.func20, Try.ntmps20
  go_wp2_with fail
  refine (HC.out _).mono ?_
  rintro e w1 ⟨rfl, f1⟩
  go_wp2
  go_ret2
  exact ⟨rfl, f1⟩
theorem rspot_yes (hn : n ≤ 4611686018427387904) (h64 : d < 18446744073709551616) (n0 : 0 < n) (hd : 0 < d) (h : a ≤ d) :
    Calls Try.prog 20 #[.int .u64 (a : Int), .int .u64 (d : Int), .int .u64 (n : Int)] w fun e w' => e = .returned (.tuple #[.int .u64 (spt a d n : Nat), .int .i64 0]) ∧ Fr S0 w w' := by
  have HC := Lib.hid (fun W => rcheck_any a d W)
  rw [show ckN a d = 0 by unfold ckN; exact if_neg (by omega)] at HC
  have hn0 : ((n : Int) == 0) = false := by rw [beq_eq_false_iff_ne]; omega
  have hq := spt_all (n := n) h
  unfold spt at hq ⊢
  have HM := Lib.hid (fun W => rmuldiv_yes a (2 * n) d W (by omega) (by omega) h64 hd (by omega))
  obtain ⟨Q, hQ⟩ : ∃ Q, a * (2 * n) / d = Q := ⟨_, rfl⟩
  obtain ⟨R, hR⟩ : ∃ R, a * (2 * n) % d = R := ⟨_, rfl⟩
  obtain ⟨N, hN⟩ : ∃ N, 2 * n = N := ⟨_, rfl⟩
  rw [hQ, hR, hN] at HM
  rw [hQ]
  have wN : IntKind.u64.wrap (2 * (n : Int)) = (N : Int) := wrap_nat (by omega) (by omega)
  clear hQ hR hN h64 hd h hq n0
  go_enter Try.func20, Try.ntmps20
  go_wp2_with fail
  refine (HC.out _).mono ?_
  rintro e w1 ⟨rfl, f1⟩
  go_wp2_with fail
  refine (HM.out _).mono ?_
  rintro e w2 ⟨rfl, f2⟩
  go_wp2
  go_ret2
  exact ⟨rfl, f1.trans0 f2⟩
theorem rspot_any (h64 : d < 18446744073709551616) :
    Calls Try.prog 20 #[.int .u64 (a : Int), .int .u64 (d : Int), .int .u64 (n : Int)] w fun e w' => e = .returned (.tuple #[.int .u64 (spR a d n : Nat), .int .i64 (spE a d n : Nat)]) ∧ Fr S0 w w' := by
  unfold spR spE
  by_cases h : d = 0 ∨ d < a
  · rw [if_pos h, if_pos h]
    exact rspot_no a d n w h
  · rw [if_neg h, if_neg h]
    by_cases h0 : n = 0
    · rw [if_pos h0, if_pos h0]
      subst h0
      exact rspot_none a d w (by omega) (by omega)
    · rw [if_neg h0, if_neg h0]
      by_cases h6 : 4611686018427387904 < n
      · rw [if_pos h6, if_pos h6]
        exact rspot_cap a d n w h6 (by omega) (by omega)
      · rw [if_neg h6, if_neg h6]
        exact rspot_yes a d n w (by omega) h64 (by omega) (by omega) (by omega)
end
end Go.Proofs.Yticagdppjknlaaa
