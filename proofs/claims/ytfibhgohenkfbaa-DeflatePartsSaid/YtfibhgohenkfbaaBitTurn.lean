/- Bits in the other order; which numbers have so many bits. -/
import Derived.Test.YtfibhgohenkfbaaBitRev
import Derived.StillTailTactics
namespace Go.Proofs.Ytfibhgohenkfbaa
open Go.RowKit

/-- a number of c bits -/
def fitB (n : Nat) (c : Int) : Bool := decide (0 ≤ c ∧ c ≤ 32 ∧ n < 2 ^ c.toNat)

/-- a count of bits -/
def someB (c : Int) : Bool := decide (0 ≤ c ∧ c ≤ 32)
theorem someB_yes {c : Int} (h : 0 ≤ c) (k : c ≤ 32) : someB c = true := decide_eq_true ⟨h, k⟩
theorem someB_no {c : Int} (h : ¬ (0 ≤ c ∧ c ≤ 32)) : someB c = false := decide_eq_false h

set_option maxRecDepth 100000 in
set_option maxHeartbeats 400000 in
theorem some_any (c : Int) (w : World) : Calls Try.prog 86 #[.int .i64 c] w fun e w' => e = .returned (.bool (someB c)) ∧ w = w' := by
  by_cases h0 : c ≥ 0
  · by_cases h1 : c ≤ 32
    · rw [someB_yes h0 h1]
      go_enter Try.func86, Try.ntmps86
      go_wp2
      go_ret
      exact ⟨rfl, rfl⟩
    · rw [someB_no fun h => h1 h.2]
      have h2 := decide_eq_false h1
      go_enter Try.func86, Try.ntmps86
      go_wp2
      go_ret
      exact ⟨rfl, rfl⟩
  · rw [someB_no fun h => h0 h.1]
    go_enter Try.func86, Try.ntmps86
    go_wp2
    go_ret
    exact ⟨rfl, rfl⟩

theorem fitB_nat (n k : Nat) (hk : (k : Int) ≤ 32) : ((n : Int) / 2 ^ k == 0) = fitB n k := by
  unfold fitB
  rw [show ((n : Int) / 2 ^ k) = ((n / 2 ^ k : Nat) : Int) by simp, Bool.eq_iff_iff, beq_iff_eq, decide_eq_true_iff]
  have hp : 0 < 2 ^ k := Nat.pow_pos (by decide)
  constructor
  · intro h
    refine ⟨by omega, hk, ?_⟩
    have h0 : n / 2 ^ k = 0 := by omega
    have := (Nat.div_eq_zero_iff).1 h0
    simp only [Int.toNat_natCast]
    omega
  · rintro ⟨-, -, h⟩
    simp only [Int.toNat_natCast] at h
    rw [Nat.div_eq_of_lt h]; rfl

set_option maxRecDepth 100000 in
set_option maxHeartbeats 400000 in
theorem fits_any (n : Nat) (c : Int) (w : World) : Calls Try.prog 66 #[.int .u32 n, .int .i64 c] w fun e w' => e = .returned (.bool (fitB n c)) ∧ w = w' := by
  have HS := Lib.hid (some_any c w)
  by_cases h : 0 ≤ c ∧ c ≤ 32
  · obtain ⟨k, rfl⟩ : ∃ k : Nat, c = k := ⟨c.toNat, by omega⟩
    rw [someB_yes h.1 h.2] at HS
    have h1 : (k : Int) ≤ 32 := h.2
    clear h
    go_enter Try.func66, Try.ntmps66
    go_wp2_with fail
    refine HS.out.mono ?_
    rintro e w' ⟨rfl, rfl⟩
    go_wp2
    go_ret
    exact ⟨congrArg (fun b => Ending.returned (.bool b)) (fitB_nat n k h1), rfl⟩
  · rw [someB_no h] at HS
    rw [show fitB n c = false from decide_eq_false fun x => h ⟨x.1, x.2.1⟩]
    go_enter Try.func66, Try.ntmps66
    go_wp2_with fail
    refine HS.out.mono ?_
    rintro e w' ⟨rfl, rfl⟩
    go_wp2
    go_ret
    exact ⟨rfl, rfl⟩

theorem swap_go (n s P m : Nat) (Q M : Int) (hQ : Q = (P : Nat)) (hM : M = (m : Nat)) (hn : n < 4294967296) (hP : P = 2 ^ s) (hm : m < 4294967296) :
    bits .or .u32 (bits .and .u32 ((n : Int) / Q) M) (bits .and .u32 (n : Int) M * Q % 4294967296) = ((swap n s m : Nat) : Int) := by
  subst hQ hM
  have h1 : n / P < 4294967296 := Nat.lt_of_le_of_lt (Nat.div_le_self _ _) hn
  rw [show ((n : Int) / P) = ((n / P : Nat) : Int) by simp, u32_and_nat _ _ h1 hm, u32_and_nat _ _ hn hm,
    show (((n &&& m : Nat) : Int) * P % 4294967296) = (((n &&& m) * P % 4294967296 : Nat) : Int) by simp,
    u32_or_nat _ _ (Nat.and_lt_two_pow (n := 32) _ hm) (Nat.mod_lt _ (by decide)), hP]
  rfl
theorem half_go (n : Nat) (hn : n < 4294967296) : bits .or .u32 ((n : Int) / 65536) ((n : Int) * 65536 % 4294967296) = ((half n : Nat) : Int) := by
  have h1 : n / 65536 < 4294967296 := Nat.lt_of_le_of_lt (Nat.div_le_self _ _) hn
  rw [show ((n : Int) / 65536) = ((n / 65536 : Nat) : Int) by simp, show ((n : Int) * 65536 % 4294967296) = ((n * 65536 % 4294967296 : Nat) : Int) by simp,
    u32_or_nat _ _ h1 (Nat.mod_lt _ (by decide))]
  rfl

set_option maxRecDepth 100000 in
set_option maxHeartbeats 400000 in
theorem revBytes_any (n : Nat) (w : World) (hn : n < 4294967296) : Calls Try.prog 102 #[.int .u32 n] w fun e w' => e = .returned (.int .u32 (half (swap n 8 16711935) : Nat)) ∧ w = w' := by
  have H1 := Lib.hid (swap_go n 8 256 16711935 256 16711935 rfl rfl hn rfl (by decide))
  have H2 := Lib.hid (half_go (swap n 8 16711935) (swap_lt _ _ _ (by decide)))
  go_enter Try.func102, Try.ntmps102
  go_wp2
  go_ret
  refine ⟨?_, rfl⟩
  rw [← H2.out, ← H1.out]
  rfl

set_option maxRecDepth 100000 in
set_option maxHeartbeats 400000 in
theorem rev_any (n : Nat) (w : World) (hn : n < 4294967296) : Calls Try.prog 87 #[.int .u32 n] w fun e w' => e = .returned (.int .u32 (rev32 n : Nat)) ∧ w = w' := by
  have H1 := Lib.hid (swap_go n 1 2 1431655765 2 1431655765 rfl rfl hn rfl (by decide))
  have H2 := Lib.hid (swap_go (swap n 1 1431655765) 2 4 858993459 4 858993459 rfl rfl (swap_lt _ _ _ (by decide)) rfl (by decide))
  have H3 := Lib.hid (swap_go (swap (swap n 1 1431655765) 2 858993459) 4 16 252645135 16 252645135 rfl rfl (swap_lt _ _ _ (by decide)) rfl (by decide))
  have H4 := Lib.hid (revBytes_any (swap (swap (swap n 1 1431655765) 2 858993459) 4 252645135) w (swap_lt _ _ _ (by decide)))
  have E : Hid (rev32 n = half (swap (swap (swap (swap n 1 1431655765) 2 858993459) 4 252645135) 8 16711935)) := Lib.hid rfl
  go_enter Try.func87, Try.ntmps87
  go_wp2_with fail
  rw [H1.out, H2.out, H3.out]
  refine H4.out.mono ?_
  rintro e w' ⟨rfl, rfl⟩
  go_wp2
  go_ret
  exact ⟨by rw [E.out]; rfl, rfl⟩

set_option maxRecDepth 100000 in
set_option maxHeartbeats 400000 in
theorem turn_any (n : Nat) (c : Int) (w : World) (hn : n < 4294967296) (h0 : 0 ≤ c) (h1 : c ≤ 32) : Calls Try.prog 67 #[.int .u32 n, .int .i64 c] w fun e w' => e = .returned (.int .u32 (turn n c.toNat : Nat)) ∧ w = w' := by
  have HS := Lib.hid (some_any c w)
  have HR := Lib.hid (rev_any n w hn)
  rw [someB_yes h0 h1] at HS
  obtain ⟨k, rfl⟩ : ∃ k : Nat, c = k := ⟨c.toNat, by omega⟩
  have HT := Lib.hid (rev32_turn n k (by omega))
  go_enter Try.func67, Try.ntmps67
  go_wp2_with fail
  refine HS.out.mono ?_
  rintro e w' ⟨rfl, rfl⟩
  go_wp2_with fail
  refine HR.out.mono ?_
  rintro e w' ⟨rfl, rfl⟩
  obtain ⟨R, hR⟩ : ∃ R, rev32 n = R := ⟨_, rfl⟩
  rw [hR] at HT ⊢
  go_wp2
  go_ret
  exact ⟨by rw [Int.toNat_natCast, ← HT.out, Int.natCast_ediv, Int.natCast_pow]; rfl, rfl⟩
theorem turn_no (n : Nat) (c : Int) (w : World) (h : ¬ (0 ≤ c ∧ c ≤ 32)) : Calls Try.prog 67 #[.int .u32 n, .int .i64 c] w fun e w' => e = .returned (.int .u32 0) ∧ w = w' := by
  have HS := Lib.hid (some_any c w)
  rw [someB_no h] at HS
  go_enter Try.func67, Try.ntmps67
  go_wp2_with fail
  refine HS.out.mono ?_
  rintro e w' ⟨rfl, rfl⟩
  go_wp2
  go_ret
  exact ⟨rfl, rfl⟩
end Go.Proofs.Ytfibhgohenkfbaa
