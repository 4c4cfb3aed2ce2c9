/- Bits in the other order; which numbers have so many bits. -/
import Derived.Test.YtbpfmjekpjfceaaBitRev
import Derived.StillTailTactics
namespace Go.Proofs.Ytbpfmjekpjfceaa
open Go.RowKit

/-- a number of c bits -/
def fitB (n : Nat) (c : Int) : Bool := decide (0 ≤ c ∧ c ≤ 32 ∧ n < 2 ^ c.toNat)

/-- a count of bits -/
def someB (c : Int) : Bool := decide (0 ≤ c ∧ c ≤ 32)
theorem someB_yes {c : Int} (h : 0 ≤ c) (k : c ≤ 32) : someB c = true := decide_eq_true ⟨h, k⟩
theorem someB_no {c : Int} (h : ¬ (0 ≤ c ∧ c ≤ 32)) : someB c = false := decide_eq_false h

set_option maxRecDepth 100000 in
set_option maxHeartbeats 400000 in
theorem some_any (c : Int) (w : World) : Calls Try.prog 91 #[.int .i64 c] w fun e w' => e = .returned (.bool (someB c)) ∧ w = w' := by
  by_cases h0 : c ≥ 0
  · by_cases h1 : c ≤ 32
    · rw [someB_yes h0 h1]
      go_enter Try.func91, Try.ntmps91
      go_wp2
      go_ret
      exact ⟨rfl, rfl⟩
    · rw [someB_no fun h => h1 h.2]
      have h2 := decide_eq_false h1
      go_enter Try.func91, Try.ntmps91
      go_wp2
      go_ret
      exact ⟨rfl, rfl⟩
  · rw [someB_no fun h => h0 h.1]
    go_enter Try.func91, Try.ntmps91
    go_wp2
    go_ret
    exact ⟨rfl, rfl⟩

theorem fitB_nat (n k : Nat) (hk : (k : Int) ≤ 32) : ((n : Int) / 2 ^ k == 0) = fitB n k := by
  unfold fitB
  rw [show ((n : Int) / 2 ^ k) = ((n / 2 ^ k : Nat) : Int) by simp, Bool.eq_iff_iff, beq_iff_eq, decide_eq_true_iff]
  have hp : 0 < 2 ^ k := Nat.pow_pos (by decide)
  constructor
  · intro h
    refine ⟨by omega, hk, ?_⟩
    have h0 : n / 2 ^ k = 0 := by omega
    have := (Nat.div_eq_zero_iff).1 h0
    simp only [Int.toNat_natCast]
    omega
  · rintro ⟨-, -, h⟩
    simp only [Int.toNat_natCast] at h
    rw [Nat.div_eq_of_lt h]; rfl

theorem swap_go (n s P m : Nat) (Q M : Int) (hQ : Q = (P : Nat)) (hM : M = (m : Nat)) (hn : n < 4294967296) (hP : P = 2 ^ s) (hm : m < 4294967296) :
    bits .or .u32 (bits .and .u32 ((n : Int) / Q) M) (bits .and .u32 (n : Int) M * Q % 4294967296) = ((swap n s m : Nat) : Int) := by
  subst hQ hM
  have h1 : n / P < 4294967296 := Nat.lt_of_le_of_lt (Nat.div_le_self _ _) hn
  rw [show ((n : Int) / P) = ((n / P : Nat) : Int) by simp, u32_and_nat _ _ h1 hm, u32_and_nat _ _ hn hm,
    show (((n &&& m : Nat) : Int) * P % 4294967296) = (((n &&& m) * P % 4294967296 : Nat) : Int) by simp,
    u32_or_nat _ _ (Nat.and_lt_two_pow (n := 32) _ hm) (Nat.mod_lt _ (by decide)), hP]
  rfl
theorem half_go (n : Nat) (hn : n < 4294967296) : bits .or .u32 ((n : Int) / 65536) ((n : Int) * 65536 % 4294967296) = ((half n : Nat) : Int) := by
  have h1 : n / 65536 < 4294967296 := Nat.lt_of_le_of_lt (Nat.div_le_self _ _) hn
  rw [show ((n : Int) / 65536) = ((n / 65536 : Nat) : Int) by simp, show ((n : Int) * 65536 % 4294967296) = ((n * 65536 % 4294967296 : Nat) : Int) by simp,
    u32_or_nat _ _ h1 (Nat.mod_lt _ (by decide))]
  rfl

end Go.Proofs.Ytbpfmjekpjfceaa
