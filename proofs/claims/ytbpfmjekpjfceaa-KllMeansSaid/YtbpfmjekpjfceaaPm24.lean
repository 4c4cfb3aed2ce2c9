/- RkCode, RkRank -/
import Derived.Test.YtbpfmjekpjfceaaPm1
import Derived.Test.YtbpfmjekpjfceaaPm3
import Derived.Test.YtbpfmjekpjfceaaPm16
import Derived.Test.YtbpfmjekpjfceaaPm17
import Derived.Test.YtbpfmjekpjfceaaPm18
import Derived.Test.YtbpfmjekpjfceaaPm19
import Derived.Laws.Externs
import Derived.Shelf.Spec.BitsCarry
import Derived.Deep.CutBlock
import Derived.Deep.CutRange
import Derived.Deep.DeepCutAuto
import Derived.Lib.BitFns
import Derived.Shelf.Small.Bits
import Derived.Shelf.Strconv.Itoa0
import Derived.Shelf.Bits.Mul64
import Derived.Test.YtbpfmjekpjfceaaRows
import Derived.WalkKit
import Derived.WalkSpells
import Derived.WalkLawsBesides
import Derived.Deep.QuietTactic
import Derived.BigQuiet
import Derived.RegionTactic
import Derived.Deep.AppendLies
import Derived.Deep.RegionLaw
import Derived.Laws.ResultCell
import Derived.Laws.EntriesVeiled
import Derived.Lib.Hide
import Derived.Laws.BytesArg
import Derived.Lib.SlBytesConst
import Derived.Maps.AppendAt
import Derived.Laws.AppendOwnNone
set_option maxRecDepth 100000
set_option maxHeartbeats 8000000
namespace Go.Proofs.Ytbpfmjekpjfceaa
open Go.RowKit
theorem check_yes (a d : Nat) (w : World) (hd : 0 < d) (h : a ≤ d) :
    Calls Try.prog 93 #[.int .u64 (a : Int), .int .u64 (d : Int)] w fun e w' => e = .returned (.int .i64 0) ∧ Fr S0 w w' := by
  have hd0 : ((d : Int) == 0) = false := by rw [beq_eq_false_iff_ne]; omega
  have hh : decide (d < a) = false := decide_eq_false (by omega)
  clear hd h
  go_enter Try.func93, Try.ntmps93
  go_wp2
  go_ret
  exact ⟨rfl, Fr.refl _ _⟩
theorem check_no (a d : Nat) (w : World) (h : d = 0 ∨ d < a) :
    Calls Try.prog 93 #[.int .u64 (a : Int), .int .u64 (d : Int)] w fun e w' => e = .returned (.int .i64 7) ∧ Fr S0 w w' := by
  by_cases h0 : d = 0
  · subst h0
    clear h
    go_enter Try.func93, Try.ntmps93
    go_wp2
    go_ret
    exact ⟨rfl, Fr.refl _ _⟩
  · have hd0 : ((d : Int) == 0) = false := by rw [beq_eq_false_iff_ne]; omega
    have hh : decide (d < a) = true := decide_eq_true (by omega)
    clear h h0
    go_enter Try.func93, Try.ntmps93
    go_wp2
    go_ret
    exact ⟨rfl, Fr.refl _ _⟩
end Go.Proofs.Ytbpfmjekpjfceaa

namespace Go.Proofs.Ytbpfmjekpjfceaa
open Go.RowKit
theorem ceil_part (a d n : Nat) (w : World) (hn : n < 18446744073709551616) (h64 : d < 18446744073709551616) (hd : 0 < d) (h : a ≤ d) :
    Calls Try.prog 94 #[.int .u64 (a : Int), .int .u64 (n : Int), .int .u64 (d : Int)] w fun e w' => e = .returned (.tuple #[.int .u64 (clg (a * n) d : Nat), .int .i64 0]) ∧ Fr S0 w w' := by
  have hc := ceil_any a n d w (by omega) hn h64
  have hq := quo_all (n := n) h
  unfold optV ceilR at hc
  rw [if_neg (by omega)] at hc
  unfold clg
  by_cases hr : a * n % d = 0
  · rw [if_pos hr] at hc ⊢
    exact hc
  · have := quo_part (n := n) h hr
    rw [if_neg hr, if_neg (by omega)] at hc
    rw [if_neg hr]
    exact hc
theorem first_any (a d n : Nat) (w : World) (hn : n < 18446744073709551616) (h64 : d < 18446744073709551616) (hd : 0 < d) (h : a ≤ d) :
    Calls Try.prog 75 #[.int .u64 (a : Int), .int .u64 (d : Int), .int .u64 (n : Int)] w fun e w' => e = .returned (.tuple #[.int .u64 (rnk a d n : Nat), .int .i64 0]) ∧ Fr S0 w w' := by
  have HC := Lib.hid (fun W => ceil_part a d n W hn h64 hd h)
  unfold rnk
  obtain ⟨C, hC⟩ : ∃ C, clg (a * n) d = C := ⟨_, rfl⟩
  rw [hC] at HC ⊢
  have em : max (C : Int) 1 = ((max 1 C : Nat) : Int) := by omega
  obtain ⟨M, hM⟩ : ∃ M, max 1 C = M := ⟨_, rfl⟩
  rw [hM] at em ⊢
  clear hC hM hn h64 hd h
  go_enter Try.func75, Try.ntmps75
  go_wp2_with fail
  refine (HC.out _).mono ?_
  rintro e w1 ⟨rfl, f1⟩
  go_wp2
  go_ret2
  exact ⟨rfl, f1⟩
section
variable (f : Nat) (a d n : Nat) (w : World)
theorem among_no (h : d = 0 ∨ d < a) :
    Calls Try.prog 74 #[.int .u64 (a : Int), .int .u64 (d : Int), .int .u64 (n : Int), .func (.func f) #[] #[]] w fun e w' => e = .returned (.tuple #[.int .u64 0, .int .i64 7]) ∧ Fr S0 w w' := by
  have HC := Lib.hid (fun W => check_no a d W h)
  clear h
  go_enter Try.func74, Try.ntmps74
  go_wp2_with fail
  refine (HC.out _).mono ?_
  rintro e w1 ⟨rfl, f1⟩
  go_wp2
  go_ret2
  exact ⟨rfl, f1⟩
theorem among_none (hd : 0 < d) (h : a ≤ d) :
    Calls Try.prog 74 #[.int .u64 (a : Int), .int .u64 (d : Int), .int .u64 0, .func (.func f) #[] #[]] w fun e w' => e = .returned (.tuple #[.int .u64 0, .int .i64 8]) ∧ Fr S0 w w' := by
  have HC := Lib.hid (fun W => check_yes a d W hd h)
  clear h hd
  go_enter Try.func74, Try.ntmps74
  go_wp2_with fail
  refine (HC.out _).mono ?_
  rintro e w1 ⟨rfl, f1⟩
  go_wp2
  go_ret2
  exact ⟨rfl, f1⟩
end
theorem among_first (a d n : Nat) (w : World) (hn : n < 18446744073709551616) (h64 : d < 18446744073709551616) (n0 : 0 < n) (hd : 0 < d) (h : a ≤ d) :
    Calls Try.prog 74 #[.int .u64 (a : Int), .int .u64 (d : Int), .int .u64 (n : Int), .func (.func 75) #[] #[]] w fun e w' => e = .returned (.tuple #[.int .u64 (rnk a d n : Nat), .int .i64 0]) ∧ Fr S0 w w' := by
  have HC := Lib.hid (fun W => check_yes a d W hd h)
  have HT := Lib.hid (fun W => first_any a d n W hn h64 hd h)
  have hn0 : ((n : Int) == 0) = false := by rw [beq_eq_false_iff_ne]; omega
  obtain ⟨R, hR⟩ : ∃ R, rnk a d n = R := ⟨_, rfl⟩
  rw [hR] at HT ⊢
  clear h hd h64 hR
  go_enter Try.func74, Try.ntmps74
  go_wp2_with fail
  refine (HC.out _).mono ?_
  rintro e w1 ⟨rfl, f1⟩
  go_wp2_with fail
  refine (HT.out _).mono ?_
  rintro e w2 ⟨rfl, f2⟩
  go_wp2
  go_ret2
  exact ⟨rfl, f1.trans0 f2⟩
def rkR (a d n : Nat) : Nat := if d = 0 ∨ d < a then 0 else if n = 0 then 0 else rnk a d n
def rkE (a d n : Nat) : Nat := if d = 0 ∨ d < a then 7 else if n = 0 then 8 else 0
theorem among_rank (a d n : Nat) (w : World) (hn : n < 18446744073709551616) (h64 : d < 18446744073709551616) :
    Calls Try.prog 74 #[.int .u64 (a : Int), .int .u64 (d : Int), .int .u64 (n : Int), .func (.func 75) #[] #[]] w fun e w' => e = .returned (.tuple #[.int .u64 (rkR a d n : Nat), .int .i64 (rkE a d n : Nat)]) ∧ Fr S0 w w' := by
  unfold rkR rkE
  by_cases h : d = 0 ∨ d < a
  · rw [if_pos h, if_pos h]
    exact among_no _ a d n w h
  · rw [if_neg h, if_neg h]
    by_cases h0 : n = 0
    · rw [if_pos h0, if_pos h0]
      subst h0
      exact among_none _ a d w (by omega) (by omega)
    · rw [if_neg h0, if_neg h0]
      exact among_first a d n w hn h64 (by omega) (by omega) (by omega)
theorem rank_any (a d n : Nat) (w : World) (hn : n < 18446744073709551616) (h64 : d < 18446744073709551616) :
    Calls Try.prog 53 #[.int .u64 (a : Int), .int .u64 (d : Int), .int .u64 (n : Int)] w fun e w' => e = .returned (.tuple #[.int .u64 (rkR a d n : Nat), .int .i64 (rkE a d n : Nat)]) ∧ Fr S0 w w' := by
  have HT := Lib.hid (fun W => among_rank a d n W hn h64)
  obtain ⟨R, hR⟩ : ∃ R, rkR a d n = R := ⟨_, rfl⟩
  obtain ⟨E, hE⟩ : ∃ E, rkE a d n = E := ⟨_, rfl⟩
  rw [hR, hE] at HT ⊢
  clear hR hE hn h64
  go_enter Try.func53, Try.ntmps53
  go_wp2_with fail
  refine (HT.out _).mono ?_
  rintro e w1 ⟨rfl, f1⟩
  go_wp2
  go_ret2
  exact ⟨rfl, f1⟩
end Go.Proofs.Ytbpfmjekpjfceaa
