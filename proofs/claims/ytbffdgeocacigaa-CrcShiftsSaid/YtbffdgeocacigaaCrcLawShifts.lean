/- The law on sums taken through bytes of 0. -/
import Derived.Test.YtbffdgeocacigaaCrcAlive
namespace Go.Proofs.Ytbffdgeocacigaa
open Go.RowKit

set_option maxRecDepth 100000 in
set_option maxHeartbeats 1000000 in
theorem law_shifts (C : CrcCode) (c : Nat) (n : Int) (a b : Nat) (w : World) (hc : c < 4294967296) (ha : a < 4294967296) (hb : b < 4294967296) (hn : n ≤ 9223372036854775807) (hn2 : -9223372036854775808 ≤ n) :
    Calls Try.prog 5 #[.int .u32 c, .int .i64 n, .int .u32 a, .int .u32 b] w fun e w' => e = .returned (.bool true) ∧ Fr S0 w w' := by
  have HC := Lib.hid hc
  have HA := Lib.hid ha
  clear hc
  have start : ∀ R, (∀ w1, Fr S0 w w1 → R (.returned (.bool true)) w1) → Calls Try.prog 8 #[] w R := fun R h => (alive_any C w).mono fun e w1 he => by rw [he.1]; exact h w1 he.2
  by_cases k1 : 3000 < n
  · go_enter Try.func5, Try.ntmps5
    go_wp2_with fail
    refine start _ ?_
    intro w1 g1
    go_wp2_with fail
    refine (C.shift_ c (n % 3000) _ HC.out (by omega) (by omega)).mono ?_
    rintro e w2 ⟨rfl, f2⟩
    have g2 := g1.trans0 f2
    clear f2 g1
    go_wp2_with fail
    refine (rshift_any c (n % 3000) _ HC.out (by omega)).mono ?_
    rintro e w' ⟨rfl, rfl⟩
    have S1 := Lib.hid (shift_lt c (n % 3000).toNat HC.out)
    obtain ⟨q, hq⟩ : ∃ q, shift c (n % 3000).toNat = q := ⟨_, rfl⟩
    have HQ := Lib.hid hq
    rw [hq] at S1 ⊢
    clear hq
    have SX := Lib.hid (shift_lt c ((a : Int) % 1000000000).toNat HC.out)
    go_wp2_with fail
    refine (C.shift_ c ((a : Int) % 1000000000) _ HC.out (by omega) (by omega)).mono ?_
    rintro e w3 ⟨rfl, f3⟩
    have g3 := g2.trans0 f3
    clear f3 g2
    go_wp2_with fail
    refine (C.shift_ (shift c ((a : Int) % 1000000000).toNat) ((b : Int) % 1000000000) _ SX.out (by omega) (by omega)).mono ?_
    rintro e w4 ⟨rfl, f4⟩
    rw [shift_shift]
    have g4 := g3.trans0 f4
    clear f4 g3
    go_wp2_with fail
    refine (C.shift_ c ((a : Int) % 1000000000 + (b : Int) % 1000000000) _ HC.out (by omega) (by omega)).mono ?_
    rintro e w5 ⟨rfl, f5⟩
    rw [show ((a : Int) % 1000000000 + (b : Int) % 1000000000).toNat = ((a : Int) % 1000000000).toNat + ((b : Int) % 1000000000).toNat by omega]
    have g5 := g4.trans0 f5
    clear f5 g4
    go_wp2_with fail
    refine (C.join_ c a (n % 3000) _ HC.out HA.out (by omega) (by omega)).mono ?_
    rintro e w6 ⟨rfl, f6⟩
    rw [HQ.out]
    have g6 := g5.trans0 f6
    clear f6 g5
    go_wp2_with fail
    refine (rshift_any c (n % 3000) _ HC.out (by omega)).mono ?_
    rintro e w' ⟨rfl, rfl⟩
    rw [HQ.out]
    have hx := u32_xor_nat q a S1.out HA.out
    go_wp2
    go_ret
    exact ⟨rfl, g6⟩
  · go_enter Try.func5, Try.ntmps5
    go_wp2_with fail
    refine start _ ?_
    intro w1 g1
    go_wp2_with fail
    refine (C.shift_ c (n) _ HC.out (by omega) (by omega)).mono ?_
    rintro e w2 ⟨rfl, f2⟩
    have g2 := g1.trans0 f2
    clear f2 g1
    go_wp2_with fail
    refine (rshift_any c (n) _ HC.out (by omega)).mono ?_
    rintro e w' ⟨rfl, rfl⟩
    have S1 := Lib.hid (shift_lt c (n).toNat HC.out)
    obtain ⟨q, hq⟩ : ∃ q, shift c (n).toNat = q := ⟨_, rfl⟩
    have HQ := Lib.hid hq
    rw [hq] at S1 ⊢
    clear hq
    have SX := Lib.hid (shift_lt c ((a : Int) % 1000000000).toNat HC.out)
    go_wp2_with fail
    refine (C.shift_ c ((a : Int) % 1000000000) _ HC.out (by omega) (by omega)).mono ?_
    rintro e w3 ⟨rfl, f3⟩
    have g3 := g2.trans0 f3
    clear f3 g2
    go_wp2_with fail
    refine (C.shift_ (shift c ((a : Int) % 1000000000).toNat) ((b : Int) % 1000000000) _ SX.out (by omega) (by omega)).mono ?_
    rintro e w4 ⟨rfl, f4⟩
    rw [shift_shift]
    have g4 := g3.trans0 f4
    clear f4 g3
    go_wp2_with fail
    refine (C.shift_ c ((a : Int) % 1000000000 + (b : Int) % 1000000000) _ HC.out (by omega) (by omega)).mono ?_
    rintro e w5 ⟨rfl, f5⟩
    rw [show ((a : Int) % 1000000000 + (b : Int) % 1000000000).toNat = ((a : Int) % 1000000000).toNat + ((b : Int) % 1000000000).toNat by omega]
    have g5 := g4.trans0 f5
    clear f5 g4
    go_wp2_with fail
    refine (C.join_ c a (n) _ HC.out HA.out (by omega) (by omega)).mono ?_
    rintro e w6 ⟨rfl, f6⟩
    rw [HQ.out]
    have g6 := g5.trans0 f6
    clear f6 g5
    go_wp2_with fail
    refine (rshift_any c (n) _ HC.out (by omega)).mono ?_
    rintro e w' ⟨rfl, rfl⟩
    rw [HQ.out]
    have hx := u32_xor_nat q a S1.out HA.out
    go_wp2
    go_ret
    exact ⟨rfl, g6⟩
end Go.Proofs.Ytbffdgeocacigaa
