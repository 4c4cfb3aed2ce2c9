/- The product of two polynomials, bit by bit: how a number goes through many bytes of 0 at once. -/
import Derived.Test.YtbffdgeocacigaaCrcSpec
namespace Go.Proofs.Ytbffdgeocacigaa
open Go.RowKit

/-- k bits of a, the highest first, each with its step of b -/
def mulN : Nat → Nat → Nat → Nat
  | 0, _, _ => 0
  | k + 1, a, b => (if a / 2147483648 % 2 = 1 then b else 0) ^^^ mulN k (2 * a % 4294967296) (T b)
theorem T_0 : T 0 = 0 := by decide
theorem mulN_T : ∀ (k a b : Nat), mulN k a (T b) = T (mulN k a b)
  | 0, _, _ => T_0.symm
  | k + 1, a, b => by
    rw [mulN, mulN, T_xor, mulN_T k]
    split
    · rfl
    · rw [T_0]
theorem mulN_TN : ∀ (n k a b : Nat), mulN k a (TN n b) = TN n (mulN k a b)
  | 0, _, _, _ => rfl
  | n + 1, k, a, b => by rw [TN, TN, mulN_TN n, mulN_T]
theorem mulN_0 : ∀ (k b : Nat), mulN k 0 b = 0
  | 0, _ => rfl
  | k + 1, b => by rw [mulN, if_neg (by decide), mulN_0 k, Nat.zero_xor]
theorem top_xor (k r : Nat) (h : r < 2 ^ k) : 2 ^ k ^^^ r = 2 ^ k + r := by
  apply Nat.eq_of_testBit_eq
  intro i
  have e : 2 ^ k + r = 2 ^ k * 1 + r := by omega
  rw [e, Nat.testBit_xor, Nat.testBit_two_pow_mul_add 1 h, Nat.testBit_two_pow]
  by_cases hi : i < k
  · rw [if_pos hi, decide_eq_false (by omega), Bool.false_xor]
  · have hr : r.testBit i = false := Nat.testBit_lt_two_pow (Nat.lt_of_lt_of_le h (Nat.pow_le_pow_right (by decide) (by omega)))
    rw [if_neg hi, hr, Bool.xor_false]
    by_cases h2 : k = i
    · subst h2; rw [Nat.sub_self, decide_eq_true rfl]; decide
    · obtain ⟨j, hj⟩ : ∃ j, i - k = j + 1 := ⟨i - k - 1, by omega⟩
      rw [hj, decide_eq_false h2, Nat.testBit_succ]
      simp
theorem mulN_one : ∀ (k n j : Nat), k + j = 31 → n < 2 ^ (k + 1) → mulN (k + 1) (n * 2 ^ j) (2 ^ k) = n
  | 0, n, j, hj, hn => by
    obtain rfl : j = 31 := by omega
    have hn2 : n = 0 ∨ n = 1 := by omega
    rcases hn2 with rfl | rfl <;> decide
  | k + 1, n, j, hj, hn => by
    have hp : 2 ^ (k + 1) * 2 ^ j = 2147483648 := by rw [← Nat.pow_add, hj]
    have hp2 : 2 ^ (k + 1) * 2 ^ (j + 1) = 4294967296 := by rw [Nat.pow_succ 2 j, ← Nat.mul_assoc, hp]
    have hk : 0 < 2 ^ (k + 1) := Nat.pow_pos (by decide)
    have hj0 : 0 < 2 ^ j := Nat.pow_pos (by decide)
    have hdiv : n * 2 ^ j / 2147483648 = n / 2 ^ (k + 1) := by rw [← hp, Nat.mul_div_mul_right _ _ hj0]
    have hmod : 2 * (n * 2 ^ j) % 4294967296 = n % 2 ^ (k + 1) * 2 ^ (j + 1) := by
      rw [← hp2, show 2 * (n * 2 ^ j) = n * 2 ^ (j + 1) by rw [Nat.pow_succ, Nat.mul_comm 2, Nat.mul_assoc], Nat.mul_mod_mul_right]
    have hT : T (2 ^ (k + 1)) = 2 ^ k := by rw [Nat.pow_succ, Nat.mul_comm, T_double]
    have hr : n % 2 ^ (k + 1) < 2 ^ (k + 1) := Nat.mod_lt _ hk
    rw [mulN, hdiv, hmod, hT, mulN_one k _ (j + 1) (by omega) hr]
    have hq : n / 2 ^ (k + 1) < 2 := by rw [Nat.div_lt_iff_lt_mul hk, ← Nat.pow_succ']; exact hn
    have hdm := Nat.div_add_mod n (2 ^ (k + 1))
    by_cases h1 : n / 2 ^ (k + 1) = 1
    · rw [if_pos (by omega), top_xor _ _ hr]
      rw [h1] at hdm; omega
    · have h0 : n / 2 ^ (k + 1) = 0 := by omega
      rw [if_neg (by omega), Nat.zero_xor]
      rw [h0, Nat.mul_zero] at hdm; omega
theorem mulN_lt : ∀ (k a b : Nat), b < 4294967296 → mulN k a b < 4294967296
  | 0, _, _, _ => by rw [mulN]; decide
  | k + 1, a, b, hb => by
    rw [mulN]
    refine Nat.xor_lt_two_pow (n := 32) ?_ (mulN_lt k _ _ (T_lt b hb))
    split
    · exact hb
    · decide
/-- n bytes of 0 as a number -/
def pw (n : Nat) : Nat := TN (8 * n) 2147483648
theorem pw_lt (n : Nat) : pw n < 4294967296 := TN_lt _ _ (by decide)
theorem pw_1 : pw 1 = 8388608 := TN_double 8 8388608
theorem mul_pw (c n : Nat) (hc : c < 4294967296) : mulN 32 c (pw n) = shift c n := by
  unfold pw shift
  rw [mulN_TN]
  have := mulN_one 31 c 0 rfl hc
  rw [Nat.pow_zero, Nat.mul_one, show (2 : Nat) ^ 31 = 2147483648 by decide] at this
  rw [this]
theorem pw_pw (n : Nat) : mulN 32 (pw n) (pw n) = pw (2 * n) := by
  rw [mul_pw _ _ (pw_lt n)]
  unfold shift pw
  rw [← TN_add, show 8 * n + 8 * n = 8 * (2 * n) by omega]

/-! ### The code's steps -/
theorem u32_low (c : Nat) (hc : c < 4294967296) : bits .and .u32 (c : Int) 1 = ((c % 2 : Nat) : Int) := by
  have h := u32_and_nat c 1 hc (by decide)
  rw [nat_mask1] at h
  exact h
theorem i64_low (n : Int) : bits .and .i64 n 1 = n % 2 := by
  have h1 : (BitVec.ofInt 64 1).toNat = 2 ^ 1 - 1 := by decide
  have key : (BitVec.ofInt 64 n &&& BitVec.ofInt 64 1).toNat = (n % ((2 ^ 64 : Nat) : Int)).toNat % 2 ^ 1 := by
    rw [BitVec.toNat_and, BitVec.toNat_ofInt, h1, Nat.and_two_pow_sub_one_eq_mod]
  show IntKind.i64.wrap ((BitVec.ofInt 64 n &&& BitVec.ofInt 64 1).toNat : Nat) = n % 2
  rw [key, IntKind.wrap_i64]
  omega

/-- what is left of it after 32 bits is nothing -/
theorem shl_mod (a k : Nat) : 2 * a % 4294967296 * 2 ^ k % 4294967296 = a * 2 ^ (k + 1) % 4294967296 := by
  rw [Nat.mod_mul_mod, Nat.pow_succ, Nat.mul_comm (2 ^ k) 2, ← Nat.mul_assoc, Nat.mul_comm a 2]
theorem mulN_succ (k a b : Nat) : mulN (k + 1) a b = (if a / 2147483648 % 2 = 1 then b else 0) ^^^ mulN k (2 * a % 4294967296) (T b) := rfl
theorem mulN_enough : ∀ (k a b : Nat), a * 2 ^ k % 4294967296 = 0 → mulN (k + 1) a b = mulN k a b
  | 0, a, b, h => by
    have : a / 2147483648 % 2 = 0 := by rw [Nat.pow_zero, Nat.mul_one] at h; omega
    rw [mulN_succ, if_neg (by omega)]; exact Nat.xor_zero 0
  | k + 1, a, b, h => by
    rw [mulN_succ (k + 1), mulN_enough k _ _ ((shl_mod a k).trans h), ← mulN_succ k a b]
theorem out32 (a : Nat) : 2 * a % 4294967296 * 2 ^ 31 % 4294967296 = 0 := (shl_mod a 31).trans (Nat.mul_mod_left _ _)
theorem mulN_step (a b : Nat) : mulN 32 a b = (if a / 2147483648 % 2 = 1 then b else 0) ^^^ mulN 32 (2 * a % 4294967296) (T b) :=
  (mulN_succ 31 a b).trans (by rw [← mulN_enough 31 (2 * a % 4294967296) (T b) (out32 a)])
/-- after how many bits nothing is left -/
def leftN : Nat → Nat → Nat
  | 0, _ => 0
  | k + 1, a => if a = 0 then 0 else 1 + leftN k (2 * a % 4294967296)
theorem leftN_succ (k a : Nat) : leftN (k + 1) a = if a = 0 then 0 else 1 + leftN k (2 * a % 4294967296) := rfl
theorem leftN_enough : ∀ (k a : Nat), a < 4294967296 → a * 2 ^ k % 4294967296 = 0 → leftN (k + 1) a = leftN k a
  | 0, a, hl, h => by
    have : a = 0 := by rw [Nat.pow_zero, Nat.mul_one] at h; omega
    rw [leftN_succ, if_pos this]; rfl
  | k + 1, a, hl, h => by
    rw [leftN_succ (k + 1), leftN_enough k _ (Nat.mod_lt _ (by decide)) ((shl_mod a k).trans h), ← leftN_succ k a]
theorem leftN_step (a : Nat) (h : a ≠ 0) : leftN 32 (2 * a % 4294967296) < leftN 32 a := by
  have e := leftN_enough 31 (2 * a % 4294967296) (Nat.mod_lt _ (by decide)) (out32 a)
  have f := leftN_succ 31 a
  rw [if_neg h] at f
  have e' : leftN 32 (2 * a % 4294967296) = leftN 31 (2 * a % 4294967296) := e
  have f' : leftN 32 a = 1 + leftN 31 (2 * a % 4294967296) := f
  rw [e', f']; omega

set_option maxRecDepth 100000 in
theorem step_any (c : Nat) (w : World) (hc : c < 4294967296) :
    Calls Try.prog 24 #[.int .u32 c] w fun e w' => e = .returned (.int .u32 (T c : Nat)) ∧ w = w' := by
  have HX := Lib.hid (u32_xor_nat (c / 2) 3988292384 (by omega) (by decide))
  by_cases h : c % 2 = 1
  · have hb : (bits .and .u32 (c : Int) 1 == 0) = false := by rw [u32_low c hc, beq_eq_false_iff_ne]; omega
    have HT := Lib.hid (T_odd c h)
    clear h hc
    go_enter Try.func24, Try.ntmps24
    go_wp2
    go_ret
    exact ⟨by rw [HT.out, ← HX.out]; rfl, rfl⟩
  · have hb : (bits .and .u32 (c : Int) 1 == 0) = true := by rw [u32_low c hc, beq_iff_eq]; omega
    have HT := Lib.hid (T_even c h)
    clear h hc
    go_enter Try.func24, Try.ntmps24
    go_wp2
    go_ret
    exact ⟨by rw [HT.out]; rfl, rfl⟩

set_option maxRecDepth 100000 in
set_option maxHeartbeats 400000 in
theorem times_any (a0 b0 : Nat) (w : World) (ha0 : a0 < 4294967296) (hb0 : b0 < 4294967296) :
    Calls Try.prog 23 #[.int .u32 a0, .int .u32 b0] w fun e w' => e = .returned (.int .u32 (mulN 32 a0 b0 : Nat)) ∧ w = w' := by
  obtain ⟨M, hM⟩ : ∃ M, mulN 32 a0 b0 = M := ⟨_, rfl⟩
  rw [hM]
  have HM := Lib.hid hM
  have HA := Lib.hid ha0
  have HB := Lib.hid hb0
  clear hM ha0 hb0
  go_enter Try.func23, Try.ntmps23
  go_wp2
  go_loopw [0, 1, 5] (fun va vb vc wr => ∃ (a b c : Nat), a < 4294967296 ∧ b < 4294967296 ∧ c < 4294967296 ∧ va = .int .u32 a ∧ vb = .int .u32 b ∧ vc = .int .u32 c ∧ c ^^^ mulN 32 a b = M ∧ w = wr) (fun va _ _ _ => leftN 32 (intOf va).toNat)
  case atStart => exact ⟨a0, b0, 0, HA.out, HB.out, by decide, rfl, rfl, rfl, by rw [Nat.zero_xor]; exact HM.out, rfl⟩
  case round =>
    obtain ⟨a, b, c, ha, hb, hc, rfl, rfl, rfl, hrel, rfl⟩ := hrel
    have HR := Lib.hid hrel
    have hA := Lib.hid ha
    have hB := Lib.hid hb
    have hC := Lib.hid hc
    clear hrel
    have hw : IntKind.u32.wrap ((a : Int) * 2) = ((2 * a % 4294967296 : Nat) : Int) := by rw [IntKind.wrap_u32]; omega
    have HX := Lib.hid (u32_xor_nat c b hc hb)
    by_cases h0 : a = 0
    · have ht : ((a : Int) != 0) = false := by rw [h0]; rfl
      go_wp2
      go_ret
      refine ⟨?_, rfl⟩
      have := HR.out
      rw [h0, mulN_0, Nat.xor_zero] at this
      rw [this]; rfl
    · have ht : ((a : Int) != 0) = true := by rw [bne_iff_ne]; omega
      have HL := Lib.hid (leftN_step a h0)
      have HS := Lib.hid (mulN_step a b)
      by_cases h1 : a / 2147483648 % 2 = 1
      · have ht1 : ((a : Int) / 2147483648 != 0) = true := by rw [bne_iff_ne]; omega
        have H1 := Lib.hid h1
        clear ha hb hc h0 h1
        go_wp2_with (go_at_call 24; refine (step_any b _ hB.out).mono ?_; rintro e w' ⟨rfl, rfl⟩)
        go_roundw
        case rel =>
          refine ⟨2 * a % 4294967296, T b, c ^^^ b, Nat.mod_lt _ (by decide), T_lt b hB.out, Nat.xor_lt_two_pow (n := 32) hC.out hB.out, ?_, rfl, ?_, ?_, by trivial⟩
          · first | rfl | rw [hw]
          · exact congrArg (Value.int IntKind.u32) HX.out
          · have := HS.out
            rw [if_pos H1.out] at this
            rw [Nat.xor_assoc, ← this]; exact HR.out
        case measure => simp [intOf]; exact HL.out
      · have ht1 : ((a : Int) / 2147483648 != 0) = false := by rw [bne_eq_false_iff_eq]; omega
        have H1 := Lib.hid h1
        clear ha hb hc h0 h1
        go_wp2_with (go_at_call 24; refine (step_any b _ hB.out).mono ?_; rintro e w' ⟨rfl, rfl⟩)
        go_roundw
        case rel =>
          refine ⟨2 * a % 4294967296, T b, c, Nat.mod_lt _ (by decide), T_lt b hB.out, hC.out, ?_, rfl, rfl, ?_, by trivial⟩
          · first | rfl | rw [hw]
          · have := HS.out
            rw [if_neg H1.out, Nat.zero_xor] at this
            rw [← this]; exact HR.out
        case measure => simp [intOf]; exact HL.out

theorem halve_pos (n : Nat) (h : 0 < n) : n / 2 < n := Nat.div_lt_self h (by decide)
theorem split_low (N k : Nat) : N % (2 * k) = N % k + k * (N / k % 2) := by rw [Nat.mul_comm 2 k, Nat.mod_mul]

set_option maxRecDepth 100000 in
set_option maxHeartbeats 400000 in
theorem shift_any (c0 : Nat) (n0 : Int) (w : World) (hc : c0 < 4294967296) (hn : n0 ≤ 9223372036854775807) (hn0 : -9223372036854775808 ≤ n0) :
    Calls Try.prog 18 #[.int .u32 c0, .int .i64 n0] w fun e w' => e = .returned (.int .u32 (shift c0 n0.toNat : Nat)) ∧ w = w' := by
  have HC := Lib.hid hc
  clear hc
  by_cases hpos : 0 < n0
  · obtain ⟨N, rfl⟩ : ∃ N : Nat, n0 = N := ⟨n0.toNat, by omega⟩
    have HN : Hid (N < 9223372036854775808) := Lib.hid (by omega)
    clear hpos hn hn0
    rw [Int.toNat_natCast]
    go_enter Try.func18, Try.ntmps18
    go_wp2
    go_loopw [0, 1, 5] (fun vc vn vp wr => ∃ (k n c p : Nat), 0 < k ∧ n = N / k ∧ c = shift c0 (N % k) ∧ p = pw k ∧ vc = .int .u32 c ∧ vn = .int .i64 n ∧ vp = .int .u32 p ∧ w = wr) (fun _ vn _ _ => (intOf vn).toNat)
    case atStart => exact ⟨1, N, c0, 8388608, by decide, (Nat.div_one N).symm, by rw [Nat.mod_one]; rfl, pw_1.symm, rfl, rfl, rfl, rfl⟩
    case round =>
      obtain ⟨k, n, c, p, hk, hn, hcc, hp, rfl, rfl, rfl, rfl⟩ := hrel
      have hN : n < 9223372036854775808 := by rw [hn]; exact Nat.lt_of_le_of_lt (Nat.div_le_self _ _) HN.out
      have HCC := Lib.hid hcc
      have HP := Lib.hid hp
      have HNN := Lib.hid hn
      have HC32 : Hid (c < 4294967296) := Lib.hid (by rw [hcc]; exact shift_lt _ _ HC.out)
      have HP32 : Hid (p < 4294967296) := Lib.hid (by rw [hp]; exact pw_lt _)
      have HPP : Hid (mulN 32 p p = pw (2 * k)) := Lib.hid (by rw [hp]; exact pw_pw k)
      have HD : Hid (n / 2 = N / (2 * k)) := Lib.hid (by rw [hn, Nat.div_div_eq_div_mul, Nat.mul_comm])
      have HS := Lib.hid (split_low N k)
      have HK := Lib.hid hk
      clear hcc hp hk
      by_cases h0 : (n : Int) > 0
      · have HMS := Lib.hid (halve_pos n (by omega))
        by_cases hodd : n % 2 = 1
        · have hlow : (bits .and .i64 (n : Int) 1 != 0) = true := by rw [i64_low, bne_iff_ne]; omega
          have HO : Hid (N / k % 2 = 1) := Lib.hid (by rw [← hn]; exact hodd)
          have HQ : Hid (mulN 32 c p = shift c0 (N % (2 * k))) := Lib.hid (by rw [HP.out, mul_pw _ _ HC32.out, HCC.out, shift_shift, HS.out, HO.out, Nat.mul_one])
          clear hodd hn
          go_wp2_with (go_at_call 23; refine (times_any _ _ _ (by first | exact HC32.out | exact HP32.out) HP32.out).mono ?_; rintro e w' ⟨rfl, rfl⟩)
          go_roundw
          case rel => exact ⟨2 * k, n / 2, mulN 32 c p, mulN 32 p p, by have := HK.out; omega, HD.out, HQ.out, HPP.out, rfl, by go_num, rfl, by trivial⟩
          case measure => simp [intOf]; omega
        · have hlow : (bits .and .i64 (n : Int) 1 != 0) = false := by rw [i64_low, bne_eq_false_iff_eq]; omega
          have HO : Hid (N / k % 2 = 0) := Lib.hid (by rw [← hn]; omega)
          have HQ : Hid (c = shift c0 (N % (2 * k))) := Lib.hid (by rw [HCC.out, HS.out, HO.out, Nat.mul_zero, Nat.add_zero])
          clear hodd hn
          go_wp2_with (go_at_call 23; refine (times_any p p _ HP32.out HP32.out).mono ?_; rintro e w' ⟨rfl, rfl⟩)
          go_roundw
          case rel => exact ⟨2 * k, n / 2, c, mulN 32 p p, by have := HK.out; omega, HD.out, HQ.out, HPP.out, rfl, by go_num, rfl, by trivial⟩
          case measure => simp [intOf]; omega
      · obtain rfl : n = 0 := by omega
        have HE : Hid (c = shift c0 N) := Lib.hid (by rw [HCC.out, Nat.mod_eq_of_lt]; exact (Nat.div_eq_zero_iff_lt HK.out).1 HNN.out.symm)
        clear hn
        go_wp2
        go_ret
        exact ⟨by rw [← HE.out]; rfl, rfl⟩
  · have hz : n0.toNat = 0 := by omega
    rw [hz]
    have hg : ¬ n0 > 0 := by omega
    clear hpos hz
    go_enter Try.func18, Try.ntmps18
    go_wp2
    go_loopw [0, 1, 5] (fun vc vn vp wr => vc = .int .u32 c0 ∧ vn = .int .i64 n0 ∧ vp = .int .u32 8388608 ∧ w = wr) (fun _ _ _ _ => 0)
    case atStart => exact ⟨rfl, rfl, rfl, rfl⟩
    case round =>
      obtain ⟨rfl, rfl, rfl, rfl⟩ := hrel
      go_wp2
      go_ret
      exact ⟨rfl, rfl⟩

set_option maxRecDepth 100000 in
set_option maxHeartbeats 400000 in
theorem join_any (a c : Nat) (n : Int) (w : World) (ha : a < 4294967296) (hc : c < 4294967296) (hn : n ≤ 9223372036854775807) (hn0 : -9223372036854775808 ≤ n) :
    Calls Try.prog 17 #[.int .u32 a, .int .u32 c, .int .i64 n] w fun e w' => e = .returned (.int .u32 (shift a n.toNat ^^^ c : Nat)) ∧ w = w' := by
  have HS := Lib.hid (shift_any a n w ha hn hn0)
  have HX := Lib.hid (u32_xor_nat (shift a n.toNat) c (shift_lt _ _ ha) hc)
  clear ha hc
  go_enter Try.func17, Try.ntmps17
  go_wp2_with (go_at_call 18; refine HS.out.mono ?_; rintro e w' ⟨rfl, rfl⟩)
  go_ret
  exact ⟨congrArg (fun z => Ending.returned (Value.int IntKind.u32 z)) HX.out, rfl⟩
end Go.Proofs.Ytbffdgeocacigaa
