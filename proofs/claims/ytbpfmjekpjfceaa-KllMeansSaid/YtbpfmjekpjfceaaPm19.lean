/- WdCode, WdMean -/
import Derived.Test.YtbpfmjekpjfceaaPm1
import Derived.Test.YtbpfmjekpjfceaaPm3
import Derived.Test.YtbpfmjekpjfceaaPm16
import Derived.Test.YtbpfmjekpjfceaaPm17
import Derived.Test.YtbpfmjekpjfceaaPm18
import Derived.Laws.Externs
import Derived.Shelf.Spec.BitsCarry
import Derived.Deep.CutBlock
import Derived.Deep.CutRange
import Derived.Deep.DeepCutAuto
import Derived.Lib.BitFns
import Derived.Shelf.Small.Bits
import Derived.Shelf.Strconv.Itoa0
import Derived.Shelf.Bits.Mul64
import Derived.Test.YtbpfmjekpjfceaaRows
import Derived.WalkKit
import Derived.WalkSpells
import Derived.WalkLawsBesides
import Derived.Deep.QuietTactic
import Derived.BigQuiet
import Derived.RegionTactic
import Derived.Deep.AppendLies
import Derived.Deep.RegionLaw
import Derived.Laws.ResultCell
import Derived.Laws.EntriesVeiled
import Derived.Lib.Hide
import Derived.Laws.BytesArg
import Derived.Lib.SlBytesConst
import Derived.Maps.AppendAt
import Derived.Laws.AppendOwnNone
set_option maxRecDepth 100000
set_option maxHeartbeats 8000000
namespace Go.Proofs.Ytbpfmjekpjfceaa
open Go.RowKit
theorem Fr.set {w W : World} (h : Fr S0 w W) (a : Addr) (x : Value) (ha : w.heap.size ≤ a.block) : Fr S0 w (W.setCell a x) :=
  h.trans (Fr.setCell (fun k => k = a.block) W a x rfl) fun j hj e => by omega
def nv (h l : Nat) : Value := .agg #[.int .u64 (h : Int), .int .u64 (l : Int)]
theorem mul_any (a b : Nat) (w : World) (ha : a < 18446744073709551616) (hb : b < 18446744073709551616) :
    Calls Try.prog 84 #[.int .u64 (a : Int), .int .u64 (b : Int)] w fun e w' => e = .returned (nv (a * b / 18446744073709551616) (a * b % 18446744073709551616)) ∧ Fr S0 w w' := by
  have HM := Lib.hid (fun W => bits_Mul64 a b ha hb W)
  unfold nv
  obtain ⟨H, hH⟩ : ∃ H, a * b / 18446744073709551616 = H := ⟨_, rfl⟩
  obtain ⟨L, hL⟩ : ∃ L, a * b % 18446744073709551616 = L := ⟨_, rfl⟩
  rw [hH, hL] at HM ⊢
  clear hH hL
  go_enter Try.func84, Try.ntmps84
  go_wp2_with fail
  refine (HM.out _).mono ?_
  rintro e w' ⟨rfl, rfl⟩
  go_wp2
  exact bodyPost_ret (v := .agg #[.int .u64 (H : Int), .int .u64 (L : Int)]) (by simp [results, Try.results84, go_sem]) rfl ⟨rfl, Fr.alloc _ _ _⟩
theorem add_any (h l h2 l2 S C T D : Nat) (w : World) (hS : (l + l2 + 0) % 18446744073709551616 = S) (hC : (l + l2 + 0) / 18446744073709551616 = C) (hT : (h + h2 + C) % 18446744073709551616 = T) (hD : (h + h2 + C) / 18446744073709551616 = D)
    (hl : l < 18446744073709551616) (hl2 : l2 < 18446744073709551616) :
    Calls Try.prog 83 #[.agg #[.int .u64 (h : Int), .int .u64 (l : Int)], .agg #[.int .u64 (h2 : Int), .int .u64 (l2 : Int)]] w fun e w' =>
      e = .returned (.tuple #[if D = 0 then nv T S else nv 0 0, .int .i64 (if D = 0 then 0 else 100)]) ∧ Fr S0 w w' := by
  have h1 : ∀ W, (callFunc 82 #[.int .u64 (l : Int), .int .u64 (l2 : Int), .int .u64 0]).run Try.prog W = .ok (.value (.tuple #[.int .u64 (S : Int), .int .u64 (C : Int)])) W := fun W => by
    have := run_add l l2 0 (by omega) W
    rw [hS, hC] at this
    exact this
  have h2 : ∀ W, (callFunc 82 #[.int .u64 (h : Int), .int .u64 (h2 : Int), .int .u64 (C : Int)]).run Try.prog W = .ok (.value (.tuple #[.int .u64 (T : Int), .int .u64 (D : Int)])) W := fun W => by
    have := run_add h h2 C (by omega) W
    rw [hT, hD] at this
    exact this
  clear hS hC hT hD hl hl2
  by_cases d : D = 0
  · subst d
    go_enter Try.func83, Try.ntmps83
    go_wp2
    exact bodyPost_ret (v := .tuple #[.agg #[.int .u64 (T : Int), .int .u64 (S : Int)], .int .i64 0]) (by simp [results, Try.results83, go_sem]) rfl ⟨rfl, ((Fr.alloc _ _ _).trans0 (Fr.alloc _ _ _)).trans0 (Fr.alloc _ _ _)⟩
  · have d2 : ((D : Int) != 0) = true := by rw [bne_iff_ne]; omega
    rw [if_neg d, if_neg d]
    go_enter Try.func83, Try.ntmps83
    go_wp2
    exact bodyPost_ret (v := .tuple #[.agg #[.int .u64 0, .int .u64 0], .int .i64 100]) (by simp [results, Try.results83, go_sem]) rfl ⟨rfl, ((Fr.alloc _ _ _).trans0 (Fr.alloc _ _ _)).trans0 (Fr.alloc _ _ _)⟩
theorem div_zero (h l : Nat) (w : World) :
    Calls Try.prog 87 #[.agg #[.int .u64 (h : Int), .int .u64 (l : Int)], .int .u64 0] w fun e w' => e = .returned (.tuple #[nv 0 0, .int .u64 0, .int .i64 100]) ∧ Fr S0 w w' := by
  go_enter Try.func87, Try.ntmps87
  go_wp2
  exact bodyPost_ret (v := .tuple #[.agg #[.int .u64 0, .int .u64 0], .int .u64 0, .int .i64 100]) (by simp [results, Try.results87, go_sem]) rfl ⟨rfl, (Fr.alloc _ _ _).trans0 (Fr.alloc _ _ _)⟩
theorem div64_all (hi lo y : Nat) (w : World) (hl : lo < 18446744073709551616) (hy : hi < y) (h64 : y < 18446744073709551616) :
    Calls Try.prog 107 #[.int .u64 (hi : Int), .int .u64 (lo : Int), .int .u64 (y : Int)] w fun e w' =>
      e = .returned (.tuple #[.int .u64 (((hi * 18446744073709551616 + lo) / y : Nat) : Int), .int .u64 (((hi * 18446744073709551616 + lo) % y : Nat) : Int)]) ∧ ∃ n, w' = w.drewN n := by
  by_cases h0 : hi = 0
  · subst h0
    rw [Nat.zero_mul, Nat.zero_add]
    exact div64_low lo y w hl hy h64
  · exact (div64_any hi lo y w (by omega) hl hy h64).mono fun e w' h => ⟨h.1, 0, h.2.symm⟩
theorem div_any (h l d : Nat) (w : World) (hd : 0 < d) (hh : h < 18446744073709551616) (hl : l < 18446744073709551616) (h64 : d < 18446744073709551616) :
    Calls Try.prog 87 #[.agg #[.int .u64 (h : Int), .int .u64 (l : Int)], .int .u64 (d : Int)] w fun e w' =>
      e = .returned (.tuple #[nv (h / d) ((h % d * 18446744073709551616 + l) / d), .int .u64 (((h % d * 18446744073709551616 + l) % d : Nat) : Int), .int .i64 0]) ∧ Fr S0 w w' := by
  have hd1 : (1 : Int) ≤ (d : Int) := by omega
  have hd2 : ((d : Int) == 0) = false := by rw [beq_eq_false_iff_ne]; omega
  have wq : IntKind.u64.wrap ((h : Int) / (d : Int)) = ((h / d : Nat) : Int) := wrap_nat (Int.natCast_ediv _ _).symm (Nat.lt_of_le_of_lt (Nat.div_le_self _ _) hh)
  have wr : (h : Int) % (d : Int) = ((h % d : Nat) : Int) := (Int.natCast_emod _ _).symm
  have HD := Lib.hid (fun W => div64_all (h % d) l d W hl (Nat.mod_lt _ hd) h64)
  obtain ⟨q, hq⟩ : ∃ q, h / d = q := ⟨_, rfl⟩
  obtain ⟨r, hr⟩ : ∃ r, h % d = r := ⟨_, rfl⟩
  rw [hq] at wq ⊢
  rw [hr] at wr HD ⊢
  obtain ⟨Q, hQ⟩ : ∃ Q, (r * 18446744073709551616 + l) / d = Q := ⟨_, rfl⟩
  obtain ⟨R, hR⟩ : ∃ R, (r * 18446744073709551616 + l) % d = R := ⟨_, rfl⟩
  rw [hQ, hR] at HD ⊢
  clear hq hr hQ hR
  go_enter Try.func87, Try.ntmps87
  go_wp2
  go_quiet (fail)
  go_wp2_with fail
  refine (HD.out _).mono ?_
  rintro e w' ⟨rfl, n, rfl⟩
  clear HD
  go_wp2
  exact bodyPost_ret (v := .tuple #[.agg #[.int .u64 (q : Int), .int .u64 (Q : Int)], .int .u64 (R : Int), .int .i64 0]) (by simp [results, Try.results87, go_sem]) rfl ⟨rfl, (((((Fr.alloc S0 _ _).trans0 (Fr.alloc _ _ _)).trans0 (Fr.drewN _ _ _)).set _ _ (by simp)).set _ _ (by simp))⟩
theorem narrow_no (h l d : Nat) (w : World) (hh : h < 18446744073709551616) (hl : l < 18446744073709551616) (h64 : d < 18446744073709551616) (hno : d = 0 ∨ d ≤ h) :
    Calls Try.prog 86 #[.func (.func 87) #[.agg #[.int .u64 (h : Int), .int .u64 (l : Int)]] #[], .int .u64 (d : Int)] w fun e w' =>
      e = .returned (.tuple #[.int .u64 0, .int .u64 0, .int .i64 100]) ∧ Fr S0 w w' := by
  by_cases h0 : d = 0
  · subst h0
    have HD := Lib.hid (fun W => div_zero h l W)
    go_enter Try.func86, Try.ntmps86
    go_wp2_with fail
    refine (HD.out _).mono ?_
    rintro e w1 ⟨rfl, f1⟩
    unfold nv
    go_wp2
    go_ret3
    exact ⟨rfl, f1.trans0 (Fr.alloc _ _ _)⟩
  · have HD := Lib.hid (fun W => div_any h l d W (by omega) hh hl h64)
    have hq : 1 ≤ h / d := by rw [Nat.le_div_iff_mul_le (by omega)]; omega
    obtain ⟨q, hqe⟩ : ∃ q, h / d = q := ⟨_, rfl⟩
    obtain ⟨Q, hQ⟩ : ∃ Q, (h % d * 18446744073709551616 + l) / d = Q := ⟨_, rfl⟩
    obtain ⟨R, hR⟩ : ∃ R, (h % d * 18446744073709551616 + l) % d = R := ⟨_, rfl⟩
    rw [hqe, hQ, hR] at HD
    rw [hqe] at hq
    have q2 : ((q : Int) != 0) = true := by rw [bne_iff_ne]; omega
    clear hqe hQ hR h0 hno
    go_enter Try.func86, Try.ntmps86
    go_wp2_with fail
    refine (HD.out _).mono ?_
    rintro e w1 ⟨rfl, f1⟩
    unfold nv
    go_wp2
    go_ret3
    exact ⟨rfl, f1.trans0 (Fr.alloc _ _ _)⟩
theorem narrow_yes (h l d : Nat) (w : World) (hl : l < 18446744073709551616) (h64 : d < 18446744073709551616) (hd : h < d) :
    Calls Try.prog 86 #[.func (.func 87) #[.agg #[.int .u64 (h : Int), .int .u64 (l : Int)]] #[], .int .u64 (d : Int)] w fun e w' =>
      e = .returned (.tuple #[.int .u64 (((h * 18446744073709551616 + l) / d : Nat) : Int), .int .u64 (((h * 18446744073709551616 + l) % d : Nat) : Int), .int .i64 0]) ∧ Fr S0 w w' := by
  have HD := Lib.hid (fun W => div_any h l d W (by omega) (by omega) hl h64)
  have hq : h / d = 0 := Nat.div_eq_of_lt hd
  have hr : h % d = h := Nat.mod_eq_of_lt hd
  rw [hq, hr] at HD
  obtain ⟨Q, hQ⟩ : ∃ Q, (h * 18446744073709551616 + l) / d = Q := ⟨_, rfl⟩
  obtain ⟨R, hR⟩ : ∃ R, (h * 18446744073709551616 + l) % d = R := ⟨_, rfl⟩
  rw [hQ, hR] at HD ⊢
  clear hQ hR hq hr
  go_enter Try.func86, Try.ntmps86
  go_wp2_with fail
  refine (HD.out _).mono ?_
  rintro e w1 ⟨rfl, f1⟩
  unfold nv
  go_wp2
  go_ret3
  exact ⟨rfl, f1.trans0 (Fr.alloc _ _ _)⟩
theorem nv_eq (h l : Nat) : nv h l = .agg #[.int .u64 (h : Int), .int .u64 (l : Int)] := rfl
theorem makeF : ∀ (fn : Fn) (first cap : Array Value) (w : World), (Instr.makeFunc fn first cap).run Try.prog w = .ok (.func fn first cap) w := fun _ _ _ _ => rfl
theorem prod_lt {a b : Nat} (ha : a < 18446744073709551616) (hb : b < 18446744073709551616) : a * b / 18446744073709551616 < 18446744073709551616 := by
  have : a * b ≤ 18446744073709551615 * 18446744073709551615 := Nat.mul_le_mul (by omega) (by omega)
  omega
theorem quo_big (x d : Nat) (hd : 0 < d) : 18446744073709551616 ≤ x / d ↔ d ≤ x / 18446744073709551616 := by
  rw [Nat.le_div_iff_mul_le hd, Nat.le_div_iff_mul_le (by decide), Nat.mul_comm]
theorem muldiv_no (a b d : Nat) (w : World) (ha : a < 18446744073709551616) (hb : b < 18446744073709551616) (h64 : d < 18446744073709551616) (hno : d = 0 ∨ 18446744073709551616 ≤ a * b / d) :
    Calls Try.prog 109 #[.int .u64 (a : Int), .int .u64 (b : Int), .int .u64 (d : Int)] w fun e w' => e = .returned (.tuple #[.int .u64 0, .int .u64 0, .int .i64 100]) ∧ Fr S0 w w' := by
  have hmf := makeF
  have HM := Lib.hid (fun W => mul_any a b W ha hb)
  have hh := prod_lt ha hb
  have hl := mod_word (a * b)
  have hn : d = 0 ∨ d ≤ a * b / 18446744073709551616 := by
    by_cases h0 : d = 0
    · exact .inl h0
    · exact .inr ((quo_big _ _ (by omega)).1 (hno.resolve_left h0))
  obtain ⟨H, hH⟩ : ∃ H, a * b / 18446744073709551616 = H := ⟨_, rfl⟩
  obtain ⟨L, hL⟩ : ∃ L, a * b % 18446744073709551616 = L := ⟨_, rfl⟩
  rw [hH, hL] at HM
  rw [hH] at hh hn
  rw [hL] at hl
  have HN := Lib.hid (fun W => narrow_no H L d W hh hl h64 hn)
  clear hH hL hno hn hh hl
  go_enter Try.func109, Try.ntmps109
  go_wp2_with fail
  refine (HM.out _).mono ?_
  rintro e w1 ⟨rfl, f1⟩
  rw [nv_eq]
  go_wp2_with fail
  refine (HN.out _).mono ?_
  rintro e w2 ⟨rfl, f2⟩
  go_wp2
  go_ret3
  exact ⟨rfl, f1.trans0 f2⟩
theorem muldiv_yes (a b d : Nat) (w : World) (ha : a < 18446744073709551616) (hb : b < 18446744073709551616) (h64 : d < 18446744073709551616) (hd : 0 < d) (hy : a * b / d < 18446744073709551616) :
    Calls Try.prog 109 #[.int .u64 (a : Int), .int .u64 (b : Int), .int .u64 (d : Int)] w fun e w' =>
      e = .returned (.tuple #[.int .u64 ((a * b / d : Nat) : Int), .int .u64 ((a * b % d : Nat) : Int), .int .i64 0]) ∧ Fr S0 w w' := by
  have hmf := makeF
  have HM := Lib.hid (fun W => mul_any a b W ha hb)
  have hl := mod_word (a * b)
  have hlt : a * b / 18446744073709551616 < d := by
    by_cases h : a * b / 18446744073709551616 < d
    · exact h
    · exact absurd ((quo_big (a * b) d hd).2 (by omega)) (by omega)
  have hX : a * b / 18446744073709551616 * 18446744073709551616 + a * b % 18446744073709551616 = a * b := Nat.div_add_mod' _ _
  obtain ⟨H, hH⟩ : ∃ H, a * b / 18446744073709551616 = H := ⟨_, rfl⟩
  obtain ⟨L, hL⟩ : ∃ L, a * b % 18446744073709551616 = L := ⟨_, rfl⟩
  rw [hH, hL] at HM hX
  rw [hH] at hlt
  rw [hL] at hl
  have HN := Lib.hid (fun W => narrow_yes H L d W hl h64 hlt)
  rw [hX] at HN
  obtain ⟨Q, hQ⟩ : ∃ Q, a * b / d = Q := ⟨_, rfl⟩
  obtain ⟨R, hR⟩ : ∃ R, a * b % d = R := ⟨_, rfl⟩
  rw [hQ, hR] at HN ⊢
  clear hH hL hy hlt hl hX hQ hR
  go_enter Try.func109, Try.ntmps109
  go_wp2_with fail
  refine (HM.out _).mono ?_
  rintro e w1 ⟨rfl, f1⟩
  rw [nv_eq]
  go_wp2_with fail
  refine (HN.out _).mono ?_
  rintro e w2 ⟨rfl, f2⟩
  go_wp2
  go_ret3
  exact ⟨rfl, f1.trans0 f2⟩
def ceilR (a b d : Nat) : Option Nat := if d = 0 ∨ 18446744073709551616 ≤ a * b / d then none else if a * b % d = 0 then some (a * b / d) else if a * b / d = 18446744073709551615 then none else some (a * b / d + 1)
def optV (o : Option Nat) : Value := .tuple #[.int .u64 (o.getD 0 : Nat), .int .i64 (if o.isSome then 0 else 100)]
theorem ceil_any (a b d : Nat) (w : World) (ha : a < 18446744073709551616) (hb : b < 18446744073709551616) (h64 : d < 18446744073709551616) :
    Calls Try.prog 94 #[.int .u64 (a : Int), .int .u64 (b : Int), .int .u64 (d : Int)] w fun e w' => e = .returned (optV (ceilR a b d)) ∧ Fr S0 w w' := by
  unfold optV ceilR
  by_cases hno : d = 0 ∨ 18446744073709551616 ≤ a * b / d
  · rw [if_pos hno]
    have HM := Lib.hid (fun W => muldiv_no a b d W ha hb h64 hno)
    clear hno
    go_enter Try.func94, Try.ntmps94
    go_wp2_with fail
    refine (HM.out _).mono ?_
    rintro e w1 ⟨rfl, f1⟩
    go_wp2
    go_ret2
    exact ⟨rfl, f1⟩
  · rw [if_neg hno]
    have HM := Lib.hid (fun W => muldiv_yes a b d W ha hb h64 (by omega) (by omega))
    have hq : a * b / d < 18446744073709551616 := by omega
    obtain ⟨Q, hQ⟩ : ∃ Q, a * b / d = Q := ⟨_, rfl⟩
    obtain ⟨R, hR⟩ : ∃ R, a * b % d = R := ⟨_, rfl⟩
    rw [hQ, hR] at HM ⊢
    rw [hQ] at hq
    clear hno hQ hR
    by_cases r0 : R = 0
    · rw [if_pos r0]
      subst r0
      go_enter Try.func94, Try.ntmps94
      go_wp2_with fail
      refine (HM.out _).mono ?_
      rintro e w1 ⟨rfl, f1⟩
      go_wp2
      go_ret2
      exact ⟨rfl, f1⟩
    · rw [if_neg r0]
      have r1 : ((R : Int) == 0) = false := by rw [beq_eq_false_iff_ne]; omega
      by_cases q0 : Q = 18446744073709551615
      · rw [if_pos q0]
        have q1 : ((Q : Int) == 18446744073709551615) = true := by rw [beq_iff_eq]; omega
        clear q0
        go_enter Try.func94, Try.ntmps94
        go_wp2_with fail
        refine (HM.out _).mono ?_
        rintro e w1 ⟨rfl, f1⟩
        go_wp2
        go_ret2
        exact ⟨rfl, f1⟩
      · rw [if_neg q0]
        have q1 : ((Q : Int) == 18446744073709551615) = false := by rw [beq_eq_false_iff_ne]; omega
        have q2 : Q < 18446744073709551615 := by omega
        clear q0
        go_enter Try.func94, Try.ntmps94
        go_wp2_with fail
        refine (HM.out _).mono ?_
        rintro e w1 ⟨rfl, f1⟩
        go_wp2
        go_ret2
        exact ⟨rfl, f1⟩
def lft (v : Int) : Nat := (v + 9223372036854775808).toNat
theorem xor_top (n : Nat) (hn : n < 18446744073709551616) : n ^^^ 9223372036854775808 = (n + 9223372036854775808) % 18446744073709551616 := by
  have e1 : n = n / 9223372036854775808 * 9223372036854775808 + n % 9223372036854775808 := by omega
  have hm : n % 9223372036854775808 < 2 ^ 63 := Nat.mod_lt _ (by decide)
  have key : ∀ q m : Nat, m < 2 ^ 63 → (q * 9223372036854775808 + m) ^^^ 9223372036854775808 = (q ^^^ 1) * 9223372036854775808 + m := by
    intro q m hm
    apply Nat.eq_of_testBit_eq
    intro i
    rw [Nat.testBit_xor, show q * 9223372036854775808 = 2 ^ 63 * q by omega, show (q ^^^ 1) * 9223372036854775808 = 2 ^ 63 * (q ^^^ 1) by omega, Nat.testBit_two_pow_mul_add _ hm, Nat.testBit_two_pow_mul_add _ hm, show 9223372036854775808 = 2 ^ 63 * 1 by decide, Nat.testBit_two_pow_mul]
    by_cases hi : i < 63
    · simp [hi, show ¬ 63 ≤ i by omega]
    · simp [hi, show 63 ≤ i by omega]
  have hq : n / 9223372036854775808 = 0 ∨ n / 9223372036854775808 = 1 := by omega
  rw [e1, key _ _ hm]
  rcases hq with hq | hq <;> rw [hq] <;> simp <;> omega
theorem lift_any (v : Int) (w : World) (h0 : -9223372036854775808 ≤ v) (h1 : v ≤ 9223372036854775807) :
    Calls Try.prog 85 #[.int .i64 v] w fun e w' => e = .returned (.int .u64 (lft v : Nat)) ∧ w = w' := by
  have hx : bits .xor .u64 (IntKind.u64.wrap v) 9223372036854775808 = ((lft v : Nat) : Int) := by
    obtain ⟨n, hn⟩ : ∃ n : Nat, IntKind.u64.wrap v = (n : Int) := ⟨(IntKind.u64.wrap v).toNat, by rw [IntKind.wrap_u64]; omega⟩
    have hn2 := hn
    rw [IntKind.wrap_u64] at hn2
    rw [hn]
    have := u64_xor_nat n 9223372036854775808 (by omega) (by decide)
    rw [xor_top n (by omega)] at this
    refine this.trans ?_
    unfold lft
    omega
  have HX := Lib.hid hx
  clear hx
  go_enter Try.func85, Try.ntmps85
  go_wp2
  go_ret
  exact ⟨congrArg (fun z => Ending.returned (Value.int .u64 z)) HX.out, rfl⟩
theorem lower_any (n : Nat) (w : World) (hn : n < 18446744073709551616) :
    Calls Try.prog 88 #[.int .u64 (n : Int)] w fun e w' => e = .returned (.int .i64 ((n : Int) - 9223372036854775808)) ∧ w = w' := by
  have hx : bits .xor .u64 (n : Int) 9223372036854775808 = (((n + 9223372036854775808) % 18446744073709551616 : Nat) : Int) := by
    have := u64_xor_nat n 9223372036854775808 hn (by decide)
    rw [xor_top n hn] at this
    exact this
  have HW : Hid (wrap64 (((n + 9223372036854775808) % 18446744073709551616 : Nat) : Int) = (n : Int) - 9223372036854775808) := Lib.hid (by unfold wrap64; omega)
  obtain ⟨X, hX⟩ : ∃ X, (n + 9223372036854775808) % 18446744073709551616 = X := ⟨_, rfl⟩
  rw [hX] at hx HW
  clear hX
  go_enter Try.func88, Try.ntmps88
  go_wp2
  go_ret
  exact ⟨congrArg (fun z => Ending.returned (Value.int .i64 z)) HW.out, rfl⟩
end Go.Proofs.Ytbpfmjekpjfceaa

namespace Go.Proofs.Ytbpfmjekpjfceaa
open Go.RowKit
abbrev Tm := Int × Nat
def wts (l : List Tm) : Nat := (l.map fun t => t.2).sum
def lsm (l : List Tm) : Nat := (l.map fun t => lft t.1 * t.2).sum
theorem wts_snoc (l : List Tm) (t : Tm) : wts (l ++ [t]) = wts l + t.2 := by simp [wts]
theorem lsm_snoc (l : List Tm) (t : Tm) : lsm (l ++ [t]) = lsm l + lft t.1 * t.2 := by simp [lsm]
structure TmOk (t : Tm) : Prop where
  lo : -9223372036854775808 ≤ t.1
  hi : t.1 ≤ 9223372036854775807
  n : t.2 < 18446744073709551616
theorem lft_lt {t : Tm} (h : TmOk t) : lft t.1 < 18446744073709551616 := by have := h.lo; have := h.hi; unfold lft; omega
theorem lsm_le : ∀ l : List Tm, (∀ t ∈ l, TmOk t) → lsm l ≤ 18446744073709551615 * wts l
  | [], _ => by simp [lsm, wts]
  | t :: r, h => by
    have h1 := lsm_le r fun u hu => h u (List.mem_cons_of_mem _ hu)
    have h2 := Nat.mul_le_mul_right t.2 (show lft t.1 ≤ 18446744073709551615 by have := lft_lt (h t List.mem_cons_self); omega)
    have e1 : lsm (t :: r) = lft t.1 * t.2 + lsm r := by simp [lsm]
    have e2 : wts (t :: r) = t.2 + wts r := by simp [wts]
    rw [e1, e2, Nat.mul_add]; omega
theorem wts_take (l : List Tm) (k : Nat) (hk : k < l.length) : wts (l.take (k + 1)) = wts (l.take k) + l[k].2 ∧ lsm (l.take (k + 1)) = lsm (l.take k) + lft l[k].1 * l[k].2 := by
  rw [List.take_succ_eq_append_getElem hk, wts_snoc, lsm_snoc]
  exact ⟨rfl, rfl⟩
theorem wts_take_le : ∀ (l : List Tm) (k : Nat), wts (l.take k) ≤ wts l
  | [], k => by simp
  | t :: r, 0 => by simp [wts]
  | t :: r, k + 1 => by
    have := wts_take_le r k
    have e2 : ∀ s : List Tm, wts (t :: s) = t.2 + wts s := fun s => by simp [wts]
    rw [List.take_succ_cons, e2, e2]; omega
structure TmI (w : World) (p : Option Addr) (l : List Tm) : Prop where
  len : l.length ≤ maxLen
  cel : l ≠ [] → ∃ b off, p = some ⟨b, off, none⟩ ∧ ∀ i, (h : i < l.length) → w.cell? ⟨b, off + i * 2, none⟩ = some (.int .i64 l[i].1) ∧ w.cell? ⟨b, off + i * 2 + 1, none⟩ = some (.int .u64 (l[i].2 : Nat))
theorem TmI.fr0 {w w' : World} {p : Option Addr} {l : List Tm} (h : TmI w p l) (f : Fr S0 w w') : TmI w' p l :=
  ⟨h.len, fun hl => let ⟨b, o, hp, hc⟩ := h.cel hl; ⟨b, o, hp, fun i hi => ⟨f.cell (hc i hi).1 (fun h => h), f.cell (hc i hi).2 (fun h => h)⟩⟩⟩
theorem TmI.at {w : World} {p : Option Addr} {l : List Tm} (h : TmI w p l) (i : Nat) (hi : i < l.length) : ∃ b off, p = some ⟨b, off, none⟩ ∧ w.cell? ⟨b, off + i * 2, none⟩ = some (.int .i64 l[i].1) ∧ w.cell? ⟨b, off + i * 2 + 1, none⟩ = some (.int .u64 (l[i].2 : Nat)) :=
  let ⟨b, off, hp, hc⟩ := h.cel (by intro e; simp [e] at hi); ⟨b, off, hp, hc i hi⟩
def NumIs (w : World) (g n : Nat) : Prop := w.heap[g]? = some (.cells #[.int .u64 ((n / 18446744073709551616 : Nat) : Int), .int .u64 ((n % 18446744073709551616 : Nat) : Int)] 139 (0, 0))
theorem two_facts {w : World} {g : Nat} {a b : Value} {t : TypeId} (h : w.heap[g]? = some (.cells #[a, b] t (0, 0))) : w.cell? ⟨g, 0, none⟩ = some a ∧ w.cell? ⟨g, 1, none⟩ = some b ∧ w.frozen? ⟨g, 0, none⟩ = false ∧ w.frozen? ⟨g, 1, none⟩ = false := by
  simp [World.cell?, World.frozen?, h]
theorem two_set {w : World} {g : Nat} {a b : Value} {t : TypeId} (h : w.heap[g]? = some (.cells #[a, b] t (0, 0))) (x y : Value) : ((w.setCell ⟨g, 0, none⟩ x).setCell ⟨g, 1, none⟩ y).heap[g]? = some (.cells #[x, y] t (0, 0)) := by
  rw [heap_setCell_same _ g 1 _ _ _ (heap_setCell_same w g 0 _ _ _ h)]
  rfl
theorem add_room (X Y : Nat) (w : World) (hs : X + Y < 340282366920938463463374607431768211456) :
    Calls Try.prog 83 #[.agg #[.int .u64 ((X / 18446744073709551616 : Nat) : Int), .int .u64 ((X % 18446744073709551616 : Nat) : Int)], .agg #[.int .u64 ((Y / 18446744073709551616 : Nat) : Int), .int .u64 ((Y % 18446744073709551616 : Nat) : Int)]] w fun e w' =>
      e = .returned (.tuple #[nv ((X + Y) / 18446744073709551616) ((X + Y) % 18446744073709551616), .int .i64 0]) ∧ Fr S0 w w' := by
  have h := add_any _ _ _ _ _ _ _ _ w (rfl : (X % 18446744073709551616 + Y % 18446744073709551616 + 0) % 18446744073709551616 = _) rfl (rfl : (X / 18446744073709551616 + Y / 18446744073709551616 + _) % 18446744073709551616 = _) rfl (Nat.mod_lt _ (by decide)) (Nat.mod_lt _ (by decide))
  have e1 : (X / 18446744073709551616 + Y / 18446744073709551616 + (X % 18446744073709551616 + Y % 18446744073709551616 + 0) / 18446744073709551616) / 18446744073709551616 = 0 := by omega
  have e2 : (X / 18446744073709551616 + Y / 18446744073709551616 + (X % 18446744073709551616 + Y % 18446744073709551616 + 0) / 18446744073709551616) % 18446744073709551616 = (X + Y) / 18446744073709551616 := by omega
  have e3 : (X % 18446744073709551616 + Y % 18446744073709551616 + 0) % 18446744073709551616 = (X + Y) % 18446744073709551616 := by omega
  rw [e1, e2, e3] at h
  exact h
def MeanNo (l : List Tm) : Prop := wts l = 0 ∨ 18446744073709551616 ≤ wts l
instance (l : List Tm) : Decidable (MeanNo l) := inferInstanceAs (Decidable (_ ∨ _))
def MeanEnds (w : World) (l : List Tm) (e : Ending) (w' : World) : Prop :=
  (if MeanNo l then e = .returned (.tuple #[.int .i64 0, .int .i64 100]) else e = .returned (.tuple #[.int .i64 (((lsm l / wts l : Nat) : Int) - 9223372036854775808), .int .i64 0])) ∧ Fr S0 w w'
theorem mean_any (p : Option Addr) (c : Nat) (l : List Tm) (w : World) (h : TmI w p l) (hok : ∀ t ∈ l, TmOk t) :
    Calls Try.prog 65 #[.slice p l.length c] w (MeanEnds w l) := by
  have H := Lib.hid h
  have HOK := Lib.hid hok
  have hlen := h.len
  unfold maxLen at hlen
  obtain ⟨m, hm⟩ : ∃ m, l.length = m := ⟨_, rfl⟩
  have HM := Lib.hid hm
  rw [hm] at hlen ⊢
  clear h hok hm
  have hmf := makeF
  go_enter Try.func65, Try.ntmps65
  go_wp2_with fail
  obtain ⟨g, hg⟩ : ∃ g, w.heap.size = g := ⟨_, rfl⟩
  have HG : Hid (w.heap.size ≤ g) := Lib.hid (by omega)
  have HN0 : Hid ((w.alloc (.cells #[.int .u64 0, .int .u64 0] 139)).heap[g]? = some (.cells #[.int .u64 0, .int .u64 0] 139 (0, 0))) := Lib.hid (by rw [← hg]; exact heap_alloc_new _ _)
  rw [hg]
  clear hg
  go_loopw [5, 6, 8, 14] (fun a _ _ i wr => ∃ k : Nat, k ≤ m ∧ i = .int .i64 k ∧ a = .int .u64 (wts (l.take k) : Nat) ∧ wts (l.take k) < 18446744073709551616 ∧ NumIs wr g (lsm (l.take k)) ∧ Fr S0 w wr) (fun _ _ _ i _ => m - (intOf i).toNat)
  case atStart => exact ⟨0, by omega, rfl, rfl, by simp [wts], (by unfold NumIs; rw [show lsm (l.take 0) = 0 by simp [lsm]]; exact HN0.out), Fr.alloc _ _ _⟩
  case round =>
    obtain ⟨k, hk, rfl, rfl, hw, hnum, hfr⟩ := hrel
    by_cases hkm : (k : Int) < (m : Int)
    · have hkl : k < l.length := by rw [HM.out]; omega
      obtain ⟨b, o, rfl, hc1, hc2⟩ := (H.out.fr0 hfr).at k hkl
      have hok := HOK.out _ (List.getElem_mem hkl)
      obtain ⟨t1, t2⟩ := wts_take l k hkl
      have hlf := lft_lt hok
      have hlo := hok.lo
      have hhi := hok.hi
      have hn := hok.n
      have hle := lsm_le (l.take (k + 1)) fun u hu => HOK.out u (List.mem_of_mem_take hu)
      have hwl := wts_take_le l (k + 1)
      rw [t1, t2] at hle
      rw [t1] at hwl
      obtain ⟨V, hV⟩ : ∃ V, l[k].1 = V := ⟨_, rfl⟩
      obtain ⟨N, hN⟩ : ∃ N, l[k].2 = N := ⟨_, rfl⟩
      rw [hV] at hc1 t2 hlf hlo hhi hle
      rw [hN] at hc2 t1 t2 hn hle hwl
      have HLF := Lib.hid (fun W => lift_any V W hlo hhi)
      have HML := Lib.hid (fun W => mul_any (lft V) N W hlf hn)
      obtain ⟨A, hA⟩ : ∃ A, wts (l.take k) = A := ⟨_, rfl⟩
      obtain ⟨S, hS⟩ : ∃ S, lsm (l.take k) = S := ⟨_, rfl⟩
      rw [hA] at hw t1 hle hwl ⊢
      rw [hS] at hnum t2 hle
      have HFR := Lib.hid hfr
      have HW := Lib.hid hwl
      have T1 := Lib.hid t1
      have T2 := Lib.hid t2
      clear hok hV hN hA hS hfr t1 t2
      by_cases hov : A + N < 18446744073709551616
      · have h1 : ∀ W, (callFunc 82 #[.int .u64 (A : Int), .int .u64 (N : Int), .int .u64 0]).run Try.prog W = .ok (.value (.tuple #[.int .u64 ((A + N : Nat) : Int), .int .u64 0])) W := fun W => by
          have := run_add A N 0 (by omega) W
          rw [show (A + N + 0) % 18446744073709551616 = A + N by omega, show (A + N + 0) / 18446744073709551616 = 0 by omega] at this
          exact this
        have hsz : S + lft V * N < 340282366920938463463374607431768211456 := by
          have := Nat.mul_le_mul_left 18446744073709551615 (show A + N ≤ 18446744073709551615 by omega)
          omega
        have HAD := Lib.hid (fun W => add_room S (lft V * N) W hsz)
        unfold NumIs at hnum
        obtain ⟨L, hL⟩ : ∃ L, lft V = L := ⟨_, rfl⟩
        rw [hL] at HLF HML HAD T2
        obtain ⟨P, hP⟩ : ∃ P, L * N = P := ⟨_, rfl⟩
        rw [hP] at HML HAD T2
        obtain ⟨X1, hX1⟩ : ∃ X, S / 18446744073709551616 = X := ⟨_, rfl⟩
        obtain ⟨X0, hX0⟩ : ∃ X, S % 18446744073709551616 = X := ⟨_, rfl⟩
        obtain ⟨P1, hP1⟩ : ∃ X, P / 18446744073709551616 = X := ⟨_, rfl⟩
        obtain ⟨P0, hP0⟩ : ∃ X, P % 18446744073709551616 = X := ⟨_, rfl⟩
        obtain ⟨Z1, hZ1⟩ : ∃ X, (S + P) / 18446744073709551616 = X := ⟨_, rfl⟩
        obtain ⟨Z0, hZ0⟩ : ∃ X, (S + P) % 18446744073709551616 = X := ⟨_, rfl⟩
        rw [hX1, hX0] at hnum
        rw [hX1, hX0, hP1, hP0, hZ1, hZ0] at HAD
        rw [hP1, hP0] at HML
        have HZ1 := Lib.hid hZ1
        have HZ0 := Lib.hid hZ0
        have HNUM := Lib.hid hnum
        clear hlf hL hP hX1 hX0 hP1 hP0 hZ1 hZ0 hle hsz hnum
        go_wp2_with fail
        have hb : (wr.alloc (.cells #[.int .i64 V, .int .u64 (N : Int)] 107)).heap[g]? = some (.cells #[.int .u64 (X1 : Int), .int .u64 (X0 : Int)] 139 (0, 0)) := (Fr.alloc S0 _ _).row HNUM.out (fun h => h)
        have ht := heap_alloc_new wr (.cells #[.int .i64 V, .int .u64 (N : Int)] 107)
        have F1 : Hid (Fr S0 w (wr.alloc (.cells #[.int .i64 V, .int .u64 (N : Int)] 107))) := Lib.hid (HFR.out.trans0 (Fr.alloc _ _ _))
        obtain ⟨z, hz⟩ : ∃ z, wr.heap.size = z := ⟨_, rfl⟩
        rw [hz] at ht ⊢
        generalize wr.alloc (.cells #[.int .i64 V, .int .u64 (N : Int)] 107) = W at hb ht F1 ⊢
        obtain ⟨s0, s1, -, -⟩ := two_facts hb
        obtain ⟨t0, t1, -, -⟩ := two_facts ht
        have HB := Lib.hid hb
        have HT := Lib.hid ht
        clear hb ht hz h1 hc1 hc2
        go_region_law (first
          | (go_simp; go_at_call 85; (with_reducible refine (HLF.out _).mono ?_); rintro _ w2 ⟨rfl, rfl⟩)
          | (go_simp; go_at_call 84; (with_reducible refine (HML.out _).mono ?_); rintro _ w3 ⟨rfl, f3⟩; rw [nv_eq]; have F3 := Lib.hid ((Fr.drew S0 W).trans0 f3); obtain ⟨u0, u1, -, -⟩ := two_facts (F3.out.row HB.out (fun h => h)); clear f3)
          | (go_simp; go_at_call 83; (with_reducible refine (HAD.out _).mono ?_); rintro _ w4 ⟨rfl, f4⟩; rw [nv_eq]; have F4 := Lib.hid (F3.out.trans0 f4); have B4 := Lib.hid (F4.out.row HB.out (fun h => h)); obtain ⟨v0, v1, y0, y1⟩ := two_facts B4.out; clear f4))
        all_goals
          go_wp2_with fail
          go_roundw
          case rel =>
            refine ⟨k + 1, by omega, by go_num, by rw [T1.out]; go_num, by rw [T1.out]; exact hov, ?_, ((F1.out.trans0 F4.out).set _ _ HG.out).set _ _ HG.out⟩
            unfold NumIs
            rw [T2.out, HZ1.out, HZ0.out]
            exact two_set B4.out _ _
          case measure => simp [intOf]; omega
      · have h1 : ∀ W, (callFunc 82 #[.int .u64 (A : Int), .int .u64 (N : Int), .int .u64 0]).run Try.prog W = .ok (.value (.tuple #[.int .u64 ((A + N - 18446744073709551616 : Nat) : Int), .int .u64 1])) W := fun W => by
          have := run_add A N 0 (by omega) W
          rw [show (A + N + 0) % 18446744073709551616 = A + N - 18446744073709551616 by omega, show (A + N + 0) / 18446744073709551616 = 1 by omega] at this
          exact this
        have HE : Hid (MeanNo l) := Lib.hid (.inr (by omega))
        clear hle
        go_wp2_with fail
        go_ret2
        exact ⟨by rw [if_pos HE.out]; rfl, HFR.out.trans0 (Fr.alloc _ _ _)⟩
    · obtain rfl : k = m := by omega
      have et : l.take k = l := List.take_of_length_le (by rw [HM.out]; exact Nat.le_refl _)
      rw [et] at hw hnum ⊢
      have hle := lsm_le l HOK.out
      obtain ⟨A, hA⟩ : ∃ A, wts l = A := ⟨_, rfl⟩
      obtain ⟨S, hS⟩ : ∃ S, lsm l = S := ⟨_, rfl⟩
      rw [hA] at hw hle ⊢
      rw [hS] at hnum hle
      have HA := Lib.hid hA
      have HS := Lib.hid hS
      have HFR := Lib.hid hfr
      unfold NumIs at hnum
      have hX : S / 18446744073709551616 * 18446744073709551616 + S % 18446744073709551616 = S := Nat.div_add_mod' _ _
      have hsl := mod_word S
      have hsh : S / 18446744073709551616 < 18446744073709551616 := by
        have := Nat.mul_le_mul_left 18446744073709551615 (show A ≤ 18446744073709551615 by omega)
        omega
      have hlt : 0 < A → S / 18446744073709551616 < A := fun h => by
        rw [Nat.div_lt_iff_lt_mul (by decide)]; omega
      obtain ⟨X1, hX1⟩ : ∃ X, S / 18446744073709551616 = X := ⟨_, rfl⟩
      obtain ⟨X0, hX0⟩ : ∃ X, S % 18446744073709551616 = X := ⟨_, rfl⟩
      rw [hX1, hX0] at hnum hX
      rw [hX1] at hlt hsh
      rw [hX0] at hsl
      obtain ⟨s0, s1, -, -⟩ := two_facts hnum
      clear et hA hS hfr hnum hX1 hX0
      by_cases h0 : A = 0
      · have HE : Hid (MeanNo l) := Lib.hid (.inl (by rw [HA.out, h0]))
        have HNO := Lib.hid (fun W => narrow_no X1 X0 A W hsh hsl hw (.inl h0))
        clear hlt hX hle h0
        go_wp2_with fail
        refine (HNO.out _).mono ?_
        rintro e w1 ⟨rfl, f1⟩
        go_wp2_with fail
        go_ret2
        exact ⟨by rw [if_pos HE.out]; rfl, HFR.out.trans0 f1⟩
      · have HE : Hid (¬ MeanNo l) := Lib.hid (by unfold MeanNo; rw [HA.out]; omega)
        have HY := Lib.hid (fun W => narrow_yes X1 X0 A W hsl hw (hlt (by omega)))
        rw [hX] at HY
        have hq : S / A < 18446744073709551616 := by
          rw [Nat.div_lt_iff_lt_mul (by omega)]; omega
        obtain ⟨Q, hQ⟩ : ∃ Q, S / A = Q := ⟨_, rfl⟩
        obtain ⟨R, hR⟩ : ∃ R, S % A = R := ⟨_, rfl⟩
        rw [hQ, hR] at HY
        rw [hQ] at hq
        have HQ : Hid (lsm l / wts l = Q) := Lib.hid (by rw [HA.out, HS.out, hQ])
        have HLO := Lib.hid (fun W => lower_any Q W hq)
        clear hlt hX hle h0 hQ hR
        go_wp2_with fail
        refine (HY.out _).mono ?_
        rintro e w1 ⟨rfl, f1⟩
        go_wp2_with fail
        refine (HLO.out _).mono ?_
        rintro e w2 ⟨rfl, rfl⟩
        go_wp2_with fail
        go_ret2
        exact ⟨by rw [if_neg HE.out, HQ.out]; rfl, HFR.out.trans0 f1⟩
end Go.Proofs.Ytbpfmjekpjfceaa
