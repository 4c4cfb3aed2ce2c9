/- RkCode, RkRank -/
import Derived.Test.YticagdppjknlaaaPl1
import Derived.Test.YticagdppjknlaaaPl2
import Derived.Test.YticagdppjknlaaaPl3
import Derived.Test.YticagdppjknlaaaPl4
import Derived.Test.YticagdppjknlaaaPl5
import Derived.Test.YticagdppjknlaaaPl6
import Derived.Laws.Externs
import Derived.Shelf.Spec.BitsCarry
import Derived.Deep.CutBlock
import Derived.Deep.CutRange
import Derived.Deep.DeepCutAuto
import Derived.Lib.BitFns
import Derived.Shelf.Small.Bits
import Derived.Shelf.Strconv.Itoa0
import Derived.Shelf.Bits.Mul64
import Derived.Test.YticagdppjknlaaaRows
import Derived.WalkKit
import Derived.WalkSpells
import Derived.WalkLawsBesides
import Derived.Deep.QuietTactic
import Derived.BigQuiet
import Derived.RegionTactic
import Derived.Deep.AppendLies
import Derived.Deep.RegionLaw
import Derived.Laws.ResultCell
import Derived.Laws.EntriesVeiled
import Derived.Lib.Hide
import Derived.Laws.BytesArg
import Derived.Lib.SlBytesConst
import Derived.Maps.AppendAt
import Derived.Laws.AppendOwnNone
set_option maxRecDepth 100000
set_option maxHeartbeats 8000000
namespace Go.Proofs.Yticagdppjknlaaa
open Go.RowKit
theorem check_yes (a d : Nat) (w : World) (hd : 0 < d) (h : a ≤ d) :
    Calls Try.prog 91 #[.int .u64 (a : Int), .int .u64 (d : Int)] w fun e w' => e = .returned (.int .i64 0) ∧ Fr S0 w w' := by
  have hd0 : ((d : Int) == 0) = false := by rw [beq_eq_false_iff_ne]; omega
  have hh : decide (d < a) = false := decide_eq_false (by omega)
  clear hd h
  go_enter Try.func91, Try.ntmps91
  go_wp2
  go_ret
  exact ⟨rfl, Fr.refl _ _⟩
theorem check_no (a d : Nat) (w : World) (h : d = 0 ∨ d < a) :
    Calls Try.prog 91 #[.int .u64 (a : Int), .int .u64 (d : Int)] w fun e w' => e = .returned (.int .i64 7) ∧ Fr S0 w w' := by
  by_cases h0 : d = 0
  · subst h0
    clear h
    go_enter Try.func91, Try.ntmps91
    go_wp2
    go_ret
    exact ⟨rfl, Fr.refl _ _⟩
  · have hd0 : ((d : Int) == 0) = false := by rw [beq_eq_false_iff_ne]; omega
    have hh : decide (d < a) = true := decide_eq_true (by omega)
    clear h h0
    go_enter Try.func91, Try.ntmps91
    go_wp2
    go_ret
    exact ⟨rfl, Fr.refl _ _⟩
end Go.Proofs.Yticagdppjknlaaa

namespace Go.Proofs.Yticagdppjknlaaa
open Go.RowKit
theorem half_no (a d n : Nat) (w : World) (hn : 4611686018427387904 < n) :
    Calls Try.prog 73 #[.int .u64 (a : Int), .int .u64 (d : Int), .int .u64 (n : Int)] w fun e w' => e = .returned (.tuple #[.int .u64 0, .int .i64 6]) ∧ Fr S0 w w' := by
  go_enter Try.func73, Try.ntmps73
  go_wp2
  go_ret2
  exact ⟨rfl, Fr.refl _ _⟩
theorem half_yes (a d n : Nat) (w : World) (hn : n ≤ 4611686018427387904) (h64 : d < 18446744073709551616) (hd : 0 < d) (h : a ≤ d) :
    Calls Try.prog 73 #[.int .u64 (a : Int), .int .u64 (d : Int), .int .u64 (n : Int)] w fun e w' => e = .returned (.tuple #[.int .u64 (spt a d n : Nat), .int .i64 0]) ∧ Fr S0 w w' := by
  have hq := spt_all (n := n) h
  unfold spt at hq ⊢
  have HM := Lib.hid (fun W => muldiv_yes a (2 * n) d W (by omega) (by omega) h64 hd (by omega))
  obtain ⟨Q, hQ⟩ : ∃ Q, a * (2 * n) / d = Q := ⟨_, rfl⟩
  obtain ⟨R, hR⟩ : ∃ R, a * (2 * n) % d = R := ⟨_, rfl⟩
  obtain ⟨N, hN⟩ : ∃ N, 2 * n = N := ⟨_, rfl⟩
  rw [hQ, hR, hN] at HM
  rw [hQ]
  have wN : IntKind.u64.wrap (2 * (n : Int)) = (N : Int) := wrap_nat (by omega) (by omega)
  clear hQ hR hN h64 hd h hq
  go_enter Try.func73, Try.ntmps73
  go_wp2_with fail
  refine (HM.out _).mono ?_
  rintro e w1 ⟨rfl, f1⟩
  go_wp2
  go_ret2
  exact ⟨rfl, f1⟩
section
variable (f : Nat) (a d n : Nat) (w : World)
theorem among_no (h : d = 0 ∨ d < a) :
    Calls Try.prog 72 #[.int .u64 (a : Int), .int .u64 (d : Int), .int .u64 (n : Int), .func (.func f) #[] #[]] w fun e w' => e = .returned (.tuple #[.int .u64 0, .int .i64 7]) ∧ Fr S0 w w' := by
  have HC := Lib.hid (fun W => check_no a d W h)
  clear h
  go_enter Try.func72, Try.ntmps72
  go_wp2_with fail
  refine (HC.out _).mono ?_
  rintro e w1 ⟨rfl, f1⟩
  go_wp2
  go_ret2
  exact ⟨rfl, f1⟩
theorem among_none (hd : 0 < d) (h : a ≤ d) :
    Calls Try.prog 72 #[.int .u64 (a : Int), .int .u64 (d : Int), .int .u64 0, .func (.func f) #[] #[]] w fun e w' => e = .returned (.tuple #[.int .u64 0, .int .i64 8]) ∧ Fr S0 w w' := by
  have HC := Lib.hid (fun W => check_yes a d W hd h)
  clear h hd
  go_enter Try.func72, Try.ntmps72
  go_wp2_with fail
  refine (HC.out _).mono ?_
  rintro e w1 ⟨rfl, f1⟩
  go_wp2
  go_ret2
  exact ⟨rfl, f1⟩
end
theorem among_half_no (a d n : Nat) (w : World) (hn : 4611686018427387904 < n) (hd : 0 < d) (h : a ≤ d) :
    Calls Try.prog 72 #[.int .u64 (a : Int), .int .u64 (d : Int), .int .u64 (n : Int), .func (.func 73) #[] #[]] w fun e w' => e = .returned (.tuple #[.int .u64 0, .int .i64 6]) ∧ Fr S0 w w' := by
  have HC := Lib.hid (fun W => check_yes a d W hd h)
  have HT := Lib.hid (fun W => half_no a d n W hn)
  have hn0 : ((n : Int) == 0) = false := by rw [beq_eq_false_iff_ne]; omega
  clear h hd hn
  go_enter Try.func72, Try.ntmps72
  go_wp2_with fail
  refine (HC.out _).mono ?_
  rintro e w1 ⟨rfl, f1⟩
  go_wp2_with fail
  refine (HT.out _).mono ?_
  rintro e w2 ⟨rfl, f2⟩
  go_wp2
  go_ret2
  exact ⟨rfl, f1.trans0 f2⟩
theorem among_half_yes (a d n : Nat) (w : World) (hn : n ≤ 4611686018427387904) (h64 : d < 18446744073709551616) (n0 : 0 < n) (hd : 0 < d) (h : a ≤ d) :
    Calls Try.prog 72 #[.int .u64 (a : Int), .int .u64 (d : Int), .int .u64 (n : Int), .func (.func 73) #[] #[]] w fun e w' => e = .returned (.tuple #[.int .u64 (spt a d n : Nat), .int .i64 0]) ∧ Fr S0 w w' := by
  have HC := Lib.hid (fun W => check_yes a d W hd h)
  have HT := Lib.hid (fun W => half_yes a d n W hn h64 hd h)
  have hn0 : ((n : Int) == 0) = false := by rw [beq_eq_false_iff_ne]; omega
  obtain ⟨R, hR⟩ : ∃ R, spt a d n = R := ⟨_, rfl⟩
  rw [hR] at HT ⊢
  clear h hd h64 hR
  go_enter Try.func72, Try.ntmps72
  go_wp2_with fail
  refine (HC.out _).mono ?_
  rintro e w1 ⟨rfl, f1⟩
  go_wp2_with fail
  refine (HT.out _).mono ?_
  rintro e w2 ⟨rfl, f2⟩
  go_wp2
  go_ret2
  exact ⟨rfl, f1.trans0 f2⟩
def spR (a d n : Nat) : Nat := if d = 0 ∨ d < a then 0 else if n = 0 then 0 else if 4611686018427387904 < n then 0 else spt a d n
def spE (a d n : Nat) : Nat := if d = 0 ∨ d < a then 7 else if n = 0 then 8 else if 4611686018427387904 < n then 6 else 0
theorem among_spot (a d n : Nat) (w : World) (h64 : d < 18446744073709551616) :
    Calls Try.prog 72 #[.int .u64 (a : Int), .int .u64 (d : Int), .int .u64 (n : Int), .func (.func 73) #[] #[]] w fun e w' => e = .returned (.tuple #[.int .u64 (spR a d n : Nat), .int .i64 (spE a d n : Nat)]) ∧ Fr S0 w w' := by
  unfold spR spE
  by_cases h : d = 0 ∨ d < a
  · rw [if_pos h, if_pos h]
    exact among_no _ a d n w h
  · rw [if_neg h, if_neg h]
    by_cases h0 : n = 0
    · rw [if_pos h0, if_pos h0]
      subst h0
      exact among_none _ a d w (by omega) (by omega)
    · rw [if_neg h0, if_neg h0]
      by_cases h6 : 4611686018427387904 < n
      · rw [if_pos h6, if_pos h6]
        exact among_half_no a d n w h6 (by omega) (by omega)
      · rw [if_neg h6, if_neg h6]
        exact among_half_yes a d n w (by omega) h64 (by omega) (by omega) (by omega)
theorem spot_any (a d n : Nat) (w : World) (h64 : d < 18446744073709551616) :
    Calls Try.prog 46 #[.int .u64 (a : Int), .int .u64 (d : Int), .int .u64 (n : Int)] w fun e w' => e = .returned (.tuple #[.int .u64 (spR a d n : Nat), .int .i64 (spE a d n : Nat)]) ∧ Fr S0 w w' := by
  have HT := Lib.hid (fun W => among_spot a d n W h64)
  obtain ⟨R, hR⟩ : ∃ R, spR a d n = R := ⟨_, rfl⟩
  obtain ⟨E, hE⟩ : ∃ E, spE a d n = E := ⟨_, rfl⟩
  rw [hR, hE] at HT ⊢
  clear hR hE h64
  go_enter Try.func46, Try.ntmps46
  go_wp2_with fail
  refine (HT.out _).mono ?_
  rintro e w1 ⟨rfl, f1⟩
  go_wp2
  go_ret2
  exact ⟨rfl, f1⟩
end Go.Proofs.Yticagdppjknlaaa
