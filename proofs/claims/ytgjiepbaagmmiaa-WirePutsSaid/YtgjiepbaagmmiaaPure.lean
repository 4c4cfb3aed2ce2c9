/- The functions of package wire (and of the document's answers) that only compute with numbers. -/
import Derived.Test.YtgjiepbaagmmiaaBase
import Derived.Test.YtgjiepbaagmmiaaRev
namespace Go.Proofs.Ytgjiepbaagmmiaa
open Go.RowKit

theorem xor_ones64 (x : Int) : BitVec.ofInt 64 x ^^^ BitVec.ofInt 64 (-1) = ~~~ (BitVec.ofInt 64 x) := by
  have : BitVec.ofInt 64 (-1) = BitVec.allOnes 64 := by decide
  rw [this, BitVec.xor_allOnes]
theorem ofInt_toNat64 (x : Int) : (BitVec.ofInt 64 x).toNat = (x % 18446744073709551616).toNat := by
  rw [BitVec.toNat_ofInt]; rfl
theorem bits_xor_ones_u64 (x : Int) (h0 : 0 ≤ x) (h1 : x < 18446744073709551616) : bits .xor .u64 x 18446744073709551615 = 18446744073709551615 - x := by
  have e : BitVec.ofInt 64 18446744073709551615 = BitVec.ofInt 64 (-1) := by decide
  show IntKind.u64.wrap ((BitVec.ofInt 64 x ^^^ BitVec.ofInt 64 18446744073709551615).toNat : Int) = _
  rw [e, xor_ones64, BitVec.toNat_not, ofInt_toNat64, IntKind.wrap_u64]
  omega
theorem bits_xor_ones_i64 (x : Int) (h0 : 0 ≤ x) (h1 : x < 9223372036854775808) : bits .xor .i64 x (-1) = - x - 1 := by
  show IntKind.i64.wrap ((BitVec.ofInt 64 x ^^^ BitVec.ofInt 64 (-1)).toNat : Int) = _
  rw [xor_ones64, BitVec.toNat_not, ofInt_toNat64, IntKind.wrap_i64]
  omega
theorem bits_xor_zero_u64 (x : Int) (h0 : 0 ≤ x) (h1 : x < 18446744073709551616) : bits .xor .u64 x 0 = x := by
  show IntKind.u64.wrap ((BitVec.ofInt 64 x ^^^ BitVec.ofInt 64 0).toNat : Int) = _
  rw [show BitVec.ofInt 64 0 = 0#64 from by decide, BitVec.xor_zero, ofInt_toNat64, IntKind.wrap_u64]
  omega
theorem bits_xor_zero_i64 (x : Int) (h0 : 0 ≤ x) (h1 : x < 9223372036854775808) : bits .xor .i64 x 0 = x := by
  show IntKind.i64.wrap ((BitVec.ofInt 64 x ^^^ BitVec.ofInt 64 0).toNat : Int) = _
  rw [show BitVec.ofInt 64 0 = 0#64 from by decide, BitVec.xor_zero, ofInt_toNat64, IntKind.wrap_i64]
  omega

/-- a number with a sign as one without, and back -/
def sgn (a : Int) : Int := if 0 ≤ a then 2 * a else -2 * a - 1
def uns (n : Int) : Int := if n % 2 = 0 then n / 2 else - (n / 2) - 1

theorem sgn_go (a : Int) (h0 : -9223372036854775808 ≤ a) (h1 : a < 9223372036854775808) :
    bits .xor .u64 (IntKind.u64.wrap (IntKind.u64.wrap a * 2)) (IntKind.u64.wrap (a / 9223372036854775808)) = sgn a := by
  simp only [IntKind.wrap_u64]
  unfold sgn
  by_cases h : 0 ≤ a
  · rw [if_pos h, show a / 9223372036854775808 % 18446744073709551616 = 0 by omega, bits_xor_zero_u64 _ (by omega) (by omega)]
    omega
  · rw [if_neg h, show a / 9223372036854775808 % 18446744073709551616 = 18446744073709551615 by omega, bits_xor_ones_u64 _ (by omega) (by omega)]
    omega

set_option maxHeartbeats 400000 in
theorem sign_any (a : Int) (w : World) (h0 : -9223372036854775808 ≤ a) (h1 : a < 9223372036854775808) :
    Calls Try.prog 13 #[.int .i64 a] w fun e w' => e = .returned (.int .u64 (sgn a)) ∧ w = w' := by
  have H := Lib.hid (sgn_go a h0 h1)
  clear h0 h1
  go_enter Try.func13, Try.ntmps13
  go_wp2
  go_ret
  exact ⟨by rw [← H.out]; rfl, rfl⟩

theorem refsgn (a : Int) (h0 : 0 ≤ a) : 2 * a = sgn a := by
  unfold sgn; rw [if_pos h0]
theorem refsgn2 (a : Int) (h1 : a < 18446744073709551616) : 2 * (18446744073709551615 - a) + 1 = sgn (a - 18446744073709551616) := by
  unfold sgn; rw [if_neg (by omega)]; omega
/-- a number without a sign, meant with one -/
def meant (a : Int) : Int := if a < 9223372036854775808 then a else a - 18446744073709551616

set_option maxHeartbeats 400000 in
theorem refsign_any (a : Int) (w : World) (h0 : 0 ≤ a) (h1 : a < 18446744073709551616) :
    Calls Try.prog 14 #[.int .u64 a] w fun e w' => e = .returned (.int .u64 (sgn (meant a))) ∧ w = w' := by
  by_cases h : a < 9223372036854775808
  · have H := Lib.hid (refsgn a h0)
    have H2 : Hid (meant a = a) := Lib.hid (if_pos h)
    go_enter Try.func14, Try.ntmps14
    go_wp2
    go_ret
    exact ⟨by rw [H2.out, ← H.out]; rfl, rfl⟩
  · have H := Lib.hid (refsgn2 a h1)
    have H2 : Hid (meant a = a - 18446744073709551616) := Lib.hid (if_neg h)
    go_enter Try.func14, Try.ntmps14
    go_wp2
    go_ret
    exact ⟨by rw [H2.out, ← H.out]; rfl, rfl⟩

theorem uns_go (n : Int) (h0 : 0 ≤ n) (h1 : n < 18446744073709551616) :
    bits .xor .i64 (n / 2) (wrap64 (-wrap64 (bits .and .u64 n 1))) = uns n := by
  have e : bits .and .u64 n 1 = n % 2 := by
    have := u64_and n 1 h0 h1 (by omega) (by omega)
    rw [this, show (1 : Int).toNat = 1 from rfl, Nat.and_one_is_mod]
    omega
  rw [e]
  have e1 : wrap64 (n % 2) = n % 2 := IntWalk.wrap64_in _ (by constructor <;> omega)
  have e2 : wrap64 (-(n % 2)) = -(n % 2) := IntWalk.wrap64_in _ (by constructor <;> omega)
  rw [e1, e2]
  unfold uns
  by_cases h : n % 2 = 0
  · rw [if_pos h, h, show (-0 : Int) = 0 from rfl, bits_xor_zero_i64 _ (by omega) (by omega)]
  · rw [if_neg h, show n % 2 = 1 by omega, bits_xor_ones_i64 _ (by omega) (by omega)]

set_option maxHeartbeats 400000 in
theorem unsign_any (n : Int) (w : World) (h0 : 0 ≤ n) (h1 : n < 18446744073709551616) :
    Calls Try.prog 15 #[.int .u64 n] w fun e w' => e = .returned (.int .i64 (uns n)) ∧ w = w' := by
  have H := Lib.hid (uns_go n h0 h1)
  go_enter Try.func15, Try.ntmps15
  go_wp2
  go_ret
  exact ⟨by rw [← H.out]; rfl, rfl⟩

set_option maxHeartbeats 400000 in
theorem refunsign_any (n : Int) (w : World) (h0 : 0 ≤ n) (h1 : n < 18446744073709551616) :
    Calls Try.prog 16 #[.int .u64 n] w fun e w' => e = .returned (.int .u64 (uns n % 18446744073709551616)) ∧ w = w' := by
  by_cases h : n % 2 = 0
  · have hb : (n % 2 == 0) = true := beq_iff_eq.2 h
    have H : Hid (n / 2 = uns n % 18446744073709551616) := Lib.hid (by unfold uns; rw [if_pos h]; omega)
    clear h
    go_enter Try.func16, Try.ntmps16
    go_wp2
    go_ret
    exact ⟨by rw [← H.out]; rfl, rfl⟩
  · have hb : (n % 2 == 0) = false := beq_eq_false_iff_ne.2 h
    have H : Hid (18446744073709551615 - n / 2 = uns n % 18446744073709551616) := Lib.hid (by unfold uns; rw [if_neg h]; omega)
    clear h
    go_enter Try.func16, Try.ntmps16
    go_wp2
    go_ret
    exact ⟨by rw [← H.out]; rfl, rfl⟩

set_option maxHeartbeats 400000 in
theorem rev_any (n : Int) (w : World) :
    Calls Try.prog 36 #[.int .u64 n] w fun e w' => e = .returned (.int .u64 (rev3 (rev2 (rev1 n)))) ∧ w = w' := by
  go_enter Try.func36, Try.ntmps36
  go_wp2
  go_ret
  exact ⟨rfl, rfl⟩

/-- the bytes of n, as many as m says, in the other order -/
def turn (n m : Nat) : Nat := (rev3 (rev2 (rev1 n))).toNat / 2 ^ (64 - 8 * m)
theorem rev_nat (n : Nat) (h : n < 18446744073709551616) : ∃ r : Nat, rev3 (rev2 (rev1 n)) = (r : Int) ∧ r < 18446744073709551616 := by
  obtain ⟨b0, b1, b2, b3, b4, b5, b6, b7, rfl, h0, h1, h2, h3, h4, h5, h6, h7⟩ := by8_of n h
  exact ⟨_, rev_by h0 h1 h2 h3 h4 h5 h6 h7, by8_lt h7 h6 h5 h4 h3 h2 h1 h0⟩
set_option maxHeartbeats 400000 in
theorem turned_any (n m : Nat) (w : World) (hn : n < 18446744073709551616) (h1 : m ≤ 8) :
    Calls Try.prog 33 #[.int .u64 n, .int .i64 m] w fun e w' => e = .returned (.int .u64 (turn n m : Nat)) ∧ w = w' := by
  obtain ⟨r, hr, hlt⟩ := rev_nat n hn
  have H : Hid ((r : Int) / 2 ^ (64 - 8 * m) = (turn n m : Nat)) := Lib.hid (by
    unfold turn
    rw [hr, Int.toNat_natCast, Int.natCast_ediv, Int.natCast_pow]
    rfl)
  have HR := Lib.hid hr
  have h8 : 0 ≤ 64 - 8 * (m : Int) := by omega
  clear hn hr hlt
  go_enter Try.func33, Try.ntmps33
  go_wp2_with (go_at_call 36; refine (rev_any _ _).mono ?_; rintro e w' ⟨rfl, rfl⟩; rw [HR.out])
  go_ret
  exact ⟨by rw [← H.out]; rfl, rfl⟩

theorem sgn_lt (a : Int) (h0 : -9223372036854775808 ≤ a) (h1 : a < 9223372036854775808) : 0 ≤ sgn a ∧ sgn a < 18446744073709551616 := by unfold sgn; split <;> omega
theorem meant_bd (a : Int) (h0 : 0 ≤ a) (h1 : a < 18446744073709551616) : -9223372036854775808 ≤ meant a ∧ meant a < 9223372036854775808 := by unfold meant; split <;> omega
theorem meant_wrap (a : Int) (h0 : 0 ≤ a) (h1 : a < 18446744073709551616) : wrap64 a = meant a := by
  unfold wrap64 meant; split <;> omega
/-- the number n, meant with a sign, as one without -/
def zz (n : Nat) : Nat := (sgn (meant n)).toNat
theorem zz_eq (n : Nat) (h1 : n < 18446744073709551616) : sgn (meant n) = (zz n : Nat) := by
  have := meant_bd n (by omega) (by omega)
  have := sgn_lt _ this.1 this.2
  unfold zz; omega
theorem zz_lt (n : Nat) (h1 : n < 18446744073709551616) : zz n < 18446744073709551616 := by
  have := meant_bd n (by omega) (by omega)
  have := sgn_lt _ this.1 this.2
  unfold zz; omega
/-- and back -/
def unzz (n : Nat) : Nat := (uns n % 18446744073709551616).toNat
theorem unzz_eq (n : Nat) : uns n % 18446744073709551616 = (unzz n : Nat) := by unfold unzz; omega
theorem unzz_zz (n : Nat) (h1 : n < 18446744073709551616) : unzz (zz n) = n := by
  have e := zz_eq n h1
  unfold unzz
  rw [← e]
  unfold uns sgn meant
  split <;> split <;> split <;> omega
theorem zz_unzz (n : Nat) (h1 : n < 18446744073709551616) : zz (unzz n) = n := by
  have e := unzz_eq n
  unfold zz
  rw [← e]
  unfold uns sgn meant
  split <;> split <;> split <;> omega
theorem unzz_lt (n : Nat) : unzz n < 18446744073709551616 := by unfold unzz; omega
theorem uns_sgn (a : Int) : uns (sgn a) = a := by unfold uns sgn; split <;> split <;> omega
theorem sgn_uns (n : Int) (h : 0 ≤ n) : sgn (uns n) = n := by unfold uns sgn; split <;> split <;> omega

def lEnc : Nat → Nat → List Nat
  | 0, _ => []
  | k + 1, n => n % 256 :: lEnc k (n / 256)
theorem lEnc_step (k b q : Nat) (hb : b < 256) : lEnc (k + 1) (256 * q + b) = b :: lEnc k q := by
  rw [lEnc, show (256 * q + b) % 256 = b by omega, show (256 * q + b) / 256 = q by omega]
section
variable {b0 b1 b2 b3 b4 b5 b6 b7 : Nat}
theorem by8_horner (b0 b1 b2 b3 b4 b5 b6 b7 : Nat) : by8 b0 b1 b2 b3 b4 b5 b6 b7 = 256 * (256 * (256 * (256 * (256 * (256 * (256 * (256 * 0 + b7) + b6) + b5) + b4) + b3) + b2) + b1) + b0 := by unfold by8; omega
theorem enc2 (q : Nat) (h0 : b0 < 256) (h1 : b1 < 256) : lEnc 2 (256 * (256 * q + b1) + b0) = [b0, b1] := by rw [lEnc_step _ _ _ h0, lEnc_step _ _ _ h1]; rfl
theorem enc4 (q : Nat) (h0 : b0 < 256) (h1 : b1 < 256) (h2 : b2 < 256) (h3 : b3 < 256) : lEnc 4 (256 * (256 * (256 * (256 * q + b3) + b2) + b1) + b0) = [b0, b1, b2, b3] := by rw [lEnc_step _ _ _ h0, lEnc_step _ _ _ h1, lEnc_step _ _ _ h2, lEnc_step _ _ _ h3]; rfl
theorem enc8 (q : Nat) (h0 : b0 < 256) (h1 : b1 < 256) (h2 : b2 < 256) (h3 : b3 < 256) (h4 : b4 < 256) (h5 : b5 < 256) (h6 : b6 < 256) (h7 : b7 < 256) : lEnc 8 (256 * (256 * (256 * (256 * (256 * (256 * (256 * (256 * q + b7) + b6) + b5) + b4) + b3) + b2) + b1) + b0) = [b0, b1, b2, b3, b4, b5, b6, b7] := by rw [lEnc_step _ _ _ h0, lEnc_step _ _ _ h1, lEnc_step _ _ _ h2, lEnc_step _ _ _ h3, lEnc_step _ _ _ h4, lEnc_step _ _ _ h5, lEnc_step _ _ _ h6, lEnc_step _ _ _ h7]; rfl
theorem top2 (h2 : b2 < 256) (h3 : b3 < 256) (h4 : b4 < 256) (h5 : b5 < 256) (h6 : b6 < 256) (h7 : b7 < 256) : by8 b7 b6 b5 b4 b3 b2 b1 b0 / 281474976710656 = 256 * (256 * 0 + b0) + b1 := by
  unfold by8; omega
theorem top4 (h4 : b4 < 256) (h5 : b5 < 256) (h6 : b6 < 256) (h7 : b7 < 256) : by8 b7 b6 b5 b4 b3 b2 b1 b0 / 4294967296 = 256 * (256 * (256 * (256 * 0 + b0) + b1) + b2) + b3 := by
  unfold by8; omega
theorem top8  : by8 b7 b6 b5 b4 b3 b2 b1 b0 / 1 = 256 * (256 * (256 * (256 * (256 * (256 * (256 * (256 * 0 + b0) + b1) + b2) + b3) + b4) + b5) + b6) + b7 := by
  unfold by8; omega
end
theorem turn_enc (n m : Nat) (hn : n < 18446744073709551616) (hm : m = 2 ∨ m = 4 ∨ m = 8) : lEnc m (turn n m) = (lEnc m n).reverse ∧ turn n m < 18446744073709551616 := by
  obtain ⟨b0, b1, b2, b3, b4, b5, b6, b7, rfl, h0, h1, h2, h3, h4, h5, h6, h7⟩ := by8_of n hn
  unfold turn
  rw [rev_by h0 h1 h2 h3 h4 h5 h6 h7, Int.toNat_natCast]
  rcases hm with rfl | rfl | rfl
  · refine ⟨?_, ?_⟩
    · rw [show (2 ^ (64 - 8 * 2) : Nat) = 281474976710656 from rfl, top2 h2 h3 h4 h5 h6 h7, enc2 0 h1 h0, by8_horner]
      rw [enc2 _ h0 h1]
      rfl
    · rw [show (2 ^ (64 - 8 * 2) : Nat) = 281474976710656 from rfl, top2 h2 h3 h4 h5 h6 h7]; omega
  · refine ⟨?_, ?_⟩
    · rw [show (2 ^ (64 - 8 * 4) : Nat) = 4294967296 from rfl, top4 h4 h5 h6 h7, enc4 0 h3 h2 h1 h0, by8_horner]
      rw [enc4 _ h0 h1 h2 h3]
      rfl
    · rw [show (2 ^ (64 - 8 * 4) : Nat) = 4294967296 from rfl, top4 h4 h5 h6 h7]; omega
  · refine ⟨?_, ?_⟩
    · rw [show (2 ^ (64 - 8 * 8) : Nat) = 1 from rfl, top8 , enc8 0 h7 h6 h5 h4 h3 h2 h1 h0, by8_horner]
      rw [enc8 _ h0 h1 h2 h3 h4 h5 h6 h7]
      rfl
    · rw [show (2 ^ (64 - 8 * 8) : Nat) = 1 from rfl, top8 ]; omega
end Go.Proofs.Ytgjiepbaagmmiaa
