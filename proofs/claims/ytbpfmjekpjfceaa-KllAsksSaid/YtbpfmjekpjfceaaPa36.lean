/- RkRef -/
import Derived.Test.YtbpfmjekpjfceaaPa1
import Derived.Test.YtbpfmjekpjfceaaPa3
import Derived.Test.YtbpfmjekpjfceaaPa16
import Derived.Test.YtbpfmjekpjfceaaPa17
import Derived.Test.YtbpfmjekpjfceaaPa18
import Derived.Test.YtbpfmjekpjfceaaPa19
import Derived.Test.YtbpfmjekpjfceaaPa24
import Derived.Test.YtbpfmjekpjfceaaPa33
import Derived.Test.YtbpfmjekpjfceaaPa34
import Derived.Test.YtbpfmjekpjfceaaPa35
import Derived.Laws.Externs
import Derived.Shelf.Spec.BitsCarry
import Derived.Deep.CutBlock
import Derived.Deep.CutRange
import Derived.Deep.DeepCutAuto
import Derived.Lib.BitFns
import Derived.Shelf.Small.Bits
import Derived.Shelf.Strconv.Itoa0
import Derived.Shelf.Bits.Mul64
import Derived.Test.YtbpfmjekpjfceaaRows
import Derived.WalkKit
import Derived.WalkSpells
import Derived.WalkLawsBesides
import Derived.Deep.QuietTactic
import Derived.BigQuiet
import Derived.RegionTactic
import Derived.Deep.AppendLies
import Derived.Deep.RegionLaw
import Derived.Laws.ResultCell
import Derived.Laws.EntriesVeiled
import Derived.Lib.Hide
import Derived.Laws.BytesArg
import Derived.Lib.SlBytesConst
import Derived.Maps.AppendAt
import Derived.Laws.AppendOwnNone
import Derived.StillTailTactics
set_option maxRecDepth 100000
set_option maxHeartbeats 8000000
namespace Go.Proofs.Ytbpfmjekpjfceaa
open Go.RowKit
def ckN (a d : Nat) : Nat := if d = 0 ∨ d < a then 7 else 0
theorem rcheck_any (a d : Nat) (w : World) :
    Calls Try.prog 58 #[.int .u64 (a : Int), .int .u64 (d : Int)] w fun e w' => e = .returned (.int .i64 (ckN a d : Nat)) ∧ Fr S0 w w' := by
  unfold ckN
  by_cases h0 : d = 0
  · subst h0
    rw [if_pos (.inl rfl)]
    go_enter Try.func58, Try.ntmps58
    go_wp2
    go_ret
    exact ⟨rfl, Fr.refl _ _⟩
  · have hd0 : ((d : Int) == 0) = false := by rw [beq_eq_false_iff_ne]; omega
    by_cases h : d < a
    · rw [if_pos (.inr h)]
      have hh : decide (d < a) = true := decide_eq_true h
      clear h h0
      go_enter Try.func58, Try.ntmps58
      go_wp2
      go_ret
      exact ⟨rfl, Fr.refl _ _⟩
    · rw [if_neg (by omega)]
      have hh : decide (d < a) = false := decide_eq_false h
      clear h h0
      go_enter Try.func58, Try.ntmps58
      go_wp2
      go_ret
      exact ⟨rfl, Fr.refl _ _⟩
section
variable (a d n : Nat) (w : World)
theorem rrank_no (h : d = 0 ∨ d < a) :
    Calls Try.prog 28 #[.int .u64 (a : Int), .int .u64 (d : Int), .int .u64 (n : Int)] w fun e w' => e = .returned (.tuple #[.int .u64 0, .int .i64 7]) ∧ Fr S0 w w' := by
  have HC := Lib.hid (fun W => rcheck_any a d W)
  rw [show ckN a d = 7 by unfold ckN; exact if_pos h] at HC
  clear h
  go_enter Try.func28, Try.ntmps28
  go_wp2_with fail
  refine (HC.out _).mono ?_
  rintro e w1 ⟨rfl, f1⟩
  go_wp2
  go_ret2
  exact ⟨rfl, f1⟩
theorem rrank_none (hd : 0 < d) (h : a ≤ d) :
    Calls Try.prog 28 #[.int .u64 (a : Int), .int .u64 (d : Int), .int .u64 0] w fun e w' => e = .returned (.tuple #[.int .u64 0, .int .i64 8]) ∧ Fr S0 w w' := by
  have HC := Lib.hid (fun W => rcheck_any a d W)
  rw [show ckN a d = 0 by unfold ckN; exact if_neg (by omega)] at HC
  clear h hd
  go_enter Try.func28, Try.ntmps28
  go_wp2_with fail
  refine (HC.out _).mono ?_
  rintro e w1 ⟨rfl, f1⟩
  go_wp2
  go_ret2
  exact ⟨rfl, f1⟩
theorem rrank_yes (hn : n < 18446744073709551616) (h64 : d < 18446744073709551616) (n0 : 0 < n) (hd : 0 < d) (h : a ≤ d) :
    Calls Try.prog 28 #[.int .u64 (a : Int), .int .u64 (d : Int), .int .u64 (n : Int)] w fun e w' => e = .returned (.tuple #[.int .u64 (rnk a d n : Nat), .int .i64 0]) ∧ Fr S0 w w' := by
  have HC := Lib.hid (fun W => rcheck_any a d W)
  rw [show ckN a d = 0 by unfold ckN; exact if_neg (by omega)] at HC
  have hq := quo_all (n := n) h
  have hp := quo_part (n := n) h
  have HM := Lib.hid (fun W => rmuldiv_yes a n d W (by omega) hn h64 hd (by omega))
  have hn0 : ((n : Int) == 0) = false := by rw [beq_eq_false_iff_ne]; omega
  unfold rnk clg
  obtain ⟨Q, hQ⟩ : ∃ Q, a * n / d = Q := ⟨_, rfl⟩
  obtain ⟨R, hR⟩ : ∃ R, a * n % d = R := ⟨_, rfl⟩
  rw [hQ, hR] at HM hp ⊢
  rw [hQ] at hq
  clear hQ hR h hd h64
  by_cases r0 : R = 0
  · rw [if_pos r0]
    subst r0
    by_cases q0 : Q = 0
    · subst q0
      rw [show max 1 0 = 1 by decide]
      clear hp hq
      go_enter Try.func28, Try.ntmps28
      go_wp2_with fail
      refine (HC.out _).mono ?_
      rintro e w1 ⟨rfl, f1⟩
      go_wp2_with fail
      refine (HM.out _).mono ?_
      rintro e w2 ⟨rfl, f2⟩
      go_wp2
      go_ret2
      exact ⟨rfl, f1.trans0 f2⟩
    · rw [show max 1 Q = Q by omega]
      have q1 : ((Q : Int) == 0) = false := by rw [beq_eq_false_iff_ne]; omega
      clear hp hq q0
      go_enter Try.func28, Try.ntmps28
      go_wp2_with fail
      refine (HC.out _).mono ?_
      rintro e w1 ⟨rfl, f1⟩
      go_wp2_with fail
      refine (HM.out _).mono ?_
      rintro e w2 ⟨rfl, f2⟩
      go_wp2
      go_ret2
      exact ⟨rfl, f1.trans0 f2⟩
  · rw [if_neg r0]
    have hQn := hp r0
    have r1 : decide (0 < R) = true := decide_eq_true (by omega)
    rw [show max 1 (Q + 1) = Q + 1 by omega]
    have q2 : Q + 1 < 18446744073709551616 := by omega
    clear hp hq r0 hQn hn
    go_enter Try.func28, Try.ntmps28
    go_wp2_with fail
    refine (HC.out _).mono ?_
    rintro e w1 ⟨rfl, f1⟩
    go_wp2_with fail
    refine (HM.out _).mono ?_
    rintro e w2 ⟨rfl, f2⟩
    go_wp2
    go_ret2
    exact ⟨rfl, f1.trans0 f2⟩
theorem rrank_any (hn : n < 18446744073709551616) (h64 : d < 18446744073709551616) :
    Calls Try.prog 28 #[.int .u64 (a : Int), .int .u64 (d : Int), .int .u64 (n : Int)] w fun e w' => e = .returned (.tuple #[.int .u64 (rkR a d n : Nat), .int .i64 (rkE a d n : Nat)]) ∧ Fr S0 w w' := by
  unfold rkR rkE
  by_cases h : d = 0 ∨ d < a
  · rw [if_pos h, if_pos h]
    exact rrank_no a d n w h
  · rw [if_neg h, if_neg h]
    by_cases h0 : n = 0
    · rw [if_pos h0, if_pos h0]
      subst h0
      exact rrank_none a d w (by omega) (by omega)
    · rw [if_neg h0, if_neg h0]
      exact rrank_yes a d n w hn h64 (by omega) (by omega) (by omega)
end
end Go.Proofs.Ytbpfmjekpjfceaa
