/- What the landed functions of layer 10 do: products, sums, differences, quotients. -/
import Derived.Test.YtbpfmjekpjfceaaWdBits
import Derived.Test.YtbpfmjekpjfceaaBytes
namespace Go.Proofs.Ytbpfmjekpjfceaa
open Go.RowKit

/-- a store into a block that is new to w -/
theorem Fr.set {w W : World} (h : Fr S0 w W) (a : Addr) (x : Value) (ha : w.heap.size ≤ a.block) : Fr S0 w (W.setCell a x) :=
  h.trans (Fr.setCell (fun k => k = a.block) W a x rfl) fun j hj e => by omega
/-- a wide number as a value -/
def nv (h l : Nat) : Value := .agg #[.int .u64 (h : Int), .int .u64 (l : Int)]
theorem wide_add {h l h2 l2 S C T D : Nat} (hS : (l + l2 + 0) % 18446744073709551616 = S) (hC : (l + l2 + 0) / 18446744073709551616 = C) (hT : (h + h2 + C) % 18446744073709551616 = T) (hD : (h + h2 + C) / 18446744073709551616 = D) :
    (h * 18446744073709551616 + l) + (h2 * 18446744073709551616 + l2) = D * 340282366920938463463374607431768211456 + T * 18446744073709551616 + S := by omega

set_option maxRecDepth 100000 in
set_option maxHeartbeats 400000 in
theorem mul_any (a b : Nat) (w : World) (ha : a < 18446744073709551616) (hb : b < 18446744073709551616) :
    Calls Try.prog 84 #[.int .u64 (a : Int), .int .u64 (b : Int)] w fun e w' => e = .returned (nv (a * b / 18446744073709551616) (a * b % 18446744073709551616)) ∧ Fr S0 w w' := by
  have HM := Lib.hid (fun W => bits_Mul64 a b ha hb W)
  unfold nv
  obtain ⟨H, hH⟩ : ∃ H, a * b / 18446744073709551616 = H := ⟨_, rfl⟩
  obtain ⟨L, hL⟩ : ∃ L, a * b % 18446744073709551616 = L := ⟨_, rfl⟩
  rw [hH, hL] at HM ⊢
  clear hH hL
  go_enter Try.func84, Try.ntmps84
  go_wp2_with fail
  refine (HM.out _).mono ?_
  rintro e w' ⟨rfl, rfl⟩
  go_wp2
  exact bodyPost_ret (v := .agg #[.int .u64 (H : Int), .int .u64 (L : Int)]) (by simp [results, Try.results84, go_sem]) rfl ⟨rfl, Fr.alloc _ _ _⟩

set_option maxRecDepth 100000 in
set_option maxHeartbeats 400000 in
theorem add_any (h l h2 l2 S C T D : Nat) (w : World) (hS : (l + l2 + 0) % 18446744073709551616 = S) (hC : (l + l2 + 0) / 18446744073709551616 = C) (hT : (h + h2 + C) % 18446744073709551616 = T) (hD : (h + h2 + C) / 18446744073709551616 = D)
    (hl : l < 18446744073709551616) (hl2 : l2 < 18446744073709551616) :
    Calls Try.prog 83 #[.agg #[.int .u64 (h : Int), .int .u64 (l : Int)], .agg #[.int .u64 (h2 : Int), .int .u64 (l2 : Int)]] w fun e w' =>
      e = .returned (.tuple #[if D = 0 then nv T S else nv 0 0, .int .i64 (if D = 0 then 0 else 100)]) ∧ Fr S0 w w' := by
  have h1 : ∀ W, (callFunc 82 #[.int .u64 (l : Int), .int .u64 (l2 : Int), .int .u64 0]).run Try.prog W = .ok (.value (.tuple #[.int .u64 (S : Int), .int .u64 (C : Int)])) W := fun W => by
    have := run_add l l2 0 (by omega) W
    rw [hS, hC] at this
    exact this
  have h2 : ∀ W, (callFunc 82 #[.int .u64 (h : Int), .int .u64 (h2 : Int), .int .u64 (C : Int)]).run Try.prog W = .ok (.value (.tuple #[.int .u64 (T : Int), .int .u64 (D : Int)])) W := fun W => by
    have := run_add h h2 C (by omega) W
    rw [hT, hD] at this
    exact this
  clear hS hC hT hD hl hl2
  by_cases d : D = 0
  · subst d
    go_enter Try.func83, Try.ntmps83
    go_wp2
    exact bodyPost_ret (v := .tuple #[.agg #[.int .u64 (T : Int), .int .u64 (S : Int)], .int .i64 0]) (by simp [results, Try.results83, go_sem]) rfl ⟨rfl, ((Fr.alloc _ _ _).trans0 (Fr.alloc _ _ _)).trans0 (Fr.alloc _ _ _)⟩
  · have d2 : ((D : Int) != 0) = true := by rw [bne_iff_ne]; omega
    rw [if_neg d, if_neg d]
    go_enter Try.func83, Try.ntmps83
    go_wp2
    exact bodyPost_ret (v := .tuple #[.agg #[.int .u64 0, .int .u64 0], .int .i64 100]) (by simp [results, Try.results83, go_sem]) rfl ⟨rfl, ((Fr.alloc _ _ _).trans0 (Fr.alloc _ _ _)).trans0 (Fr.alloc _ _ _)⟩

/-- -1, 0 or 1 -/
def cmpI (x y : Nat) : Int := if x = y then 0 else if x < y then -1 else 1
def cmpW (h l h2 l2 : Nat) : Int := cmpI (h * 18446744073709551616 + l) (h2 * 18446744073709551616 + l2)

set_option maxRecDepth 100000 in
set_option maxHeartbeats 400000 in
theorem div_zero (h l : Nat) (w : World) :
    Calls Try.prog 87 #[.agg #[.int .u64 (h : Int), .int .u64 (l : Int)], .int .u64 0] w fun e w' => e = .returned (.tuple #[nv 0 0, .int .u64 0, .int .i64 100]) ∧ Fr S0 w w' := by
  go_enter Try.func87, Try.ntmps87
  go_wp2
  exact bodyPost_ret (v := .tuple #[.agg #[.int .u64 0, .int .u64 0], .int .u64 0, .int .i64 100]) (by simp [results, Try.results87, go_sem]) rfl ⟨rfl, (Fr.alloc _ _ _).trans0 (Fr.alloc _ _ _)⟩

theorem div64_all (hi lo y : Nat) (w : World) (hl : lo < 18446744073709551616) (hy : hi < y) (h64 : y < 18446744073709551616) :
    Calls Try.prog 107 #[.int .u64 (hi : Int), .int .u64 (lo : Int), .int .u64 (y : Int)] w fun e w' =>
      e = .returned (.tuple #[.int .u64 (((hi * 18446744073709551616 + lo) / y : Nat) : Int), .int .u64 (((hi * 18446744073709551616 + lo) % y : Nat) : Int)]) ∧ ∃ n, w' = w.drewN n := by
  by_cases h0 : hi = 0
  · subst h0
    rw [Nat.zero_mul, Nat.zero_add]
    exact div64_low lo y w hl hy h64
  · exact (div64_any hi lo y w (by omega) hl hy h64).mono fun e w' h => ⟨h.1, 0, h.2.symm⟩

set_option maxRecDepth 100000 in
set_option maxHeartbeats 400000 in
theorem div_any (h l d : Nat) (w : World) (hd : 0 < d) (hh : h < 18446744073709551616) (hl : l < 18446744073709551616) (h64 : d < 18446744073709551616) :
    Calls Try.prog 87 #[.agg #[.int .u64 (h : Int), .int .u64 (l : Int)], .int .u64 (d : Int)] w fun e w' =>
      e = .returned (.tuple #[nv (h / d) ((h % d * 18446744073709551616 + l) / d), .int .u64 (((h % d * 18446744073709551616 + l) % d : Nat) : Int), .int .i64 0]) ∧ Fr S0 w w' := by
  have hd1 : (1 : Int) ≤ (d : Int) := by omega
  have hd2 : ((d : Int) == 0) = false := by rw [beq_eq_false_iff_ne]; omega
  have wq : IntKind.u64.wrap ((h : Int) / (d : Int)) = ((h / d : Nat) : Int) := wrap_nat (Int.natCast_ediv _ _).symm (Nat.lt_of_le_of_lt (Nat.div_le_self _ _) hh)
  have wr : (h : Int) % (d : Int) = ((h % d : Nat) : Int) := (Int.natCast_emod _ _).symm
  have HD := Lib.hid (fun W => div64_all (h % d) l d W hl (Nat.mod_lt _ hd) h64)
  obtain ⟨q, hq⟩ : ∃ q, h / d = q := ⟨_, rfl⟩
  obtain ⟨r, hr⟩ : ∃ r, h % d = r := ⟨_, rfl⟩
  rw [hq] at wq ⊢
  rw [hr] at wr HD ⊢
  obtain ⟨Q, hQ⟩ : ∃ Q, (r * 18446744073709551616 + l) / d = Q := ⟨_, rfl⟩
  obtain ⟨R, hR⟩ : ∃ R, (r * 18446744073709551616 + l) % d = R := ⟨_, rfl⟩
  rw [hQ, hR] at HD ⊢
  clear hq hr hQ hR
  go_enter Try.func87, Try.ntmps87
  go_wp2
  go_quiet (fail)
  go_wp2_with fail
  refine (HD.out _).mono ?_
  rintro e w' ⟨rfl, n, rfl⟩
  clear HD
  go_wp2
  exact bodyPost_ret (v := .tuple #[.agg #[.int .u64 (q : Int), .int .u64 (Q : Int)], .int .u64 (R : Int), .int .i64 0]) (by simp [results, Try.results87, go_sem]) rfl ⟨rfl, (((((Fr.alloc S0 _ _).trans0 (Fr.alloc _ _ _)).trans0 (Fr.drewN _ _ _)).set _ _ (by simp)).set _ _ (by simp))⟩

/-- the quotient of a wide number by words -/
theorem div_words {h l d X : Nat} (hX : h * 18446744073709551616 + l = X) (hd : 0 < d) (hl : l < 18446744073709551616) : h / d * 18446744073709551616 + (h % d * 18446744073709551616 + l) / d = X / d ∧ (h % d * 18446744073709551616 + l) % d = X % d ∧ (h % d * 18446744073709551616 + l) / d < 18446744073709551616 := by
  have e := Nat.div_add_mod h d
  have hr : h % d < d := Nat.mod_lt _ hd
  generalize h / d = q at e ⊢
  generalize h % d = r at e hr ⊢
  have e2 : X = d * (q * 18446744073709551616) + (r * 18446744073709551616 + l) := by
    rw [← hX, ← e, Nat.add_mul, Nat.mul_assoc, Nat.add_assoc]
  refine ⟨by rw [e2, Nat.mul_add_div hd], by rw [e2, Nat.mul_add_mod], ?_⟩
  rw [Nat.div_lt_iff_lt_mul hd]
  have := Nat.mul_le_mul_right 18446744073709551616 (show r + 1 ≤ d by omega)
  rw [Nat.mul_comm _ d]
  omega

def DivOf (h l : Nat) : Value := .func (.func 87) #[.agg #[.int .u64 (h : Int), .int .u64 (l : Int)]] #[]

set_option maxRecDepth 100000 in
set_option maxHeartbeats 400000 in
theorem narrow_no (h l d : Nat) (w : World) (hh : h < 18446744073709551616) (hl : l < 18446744073709551616) (h64 : d < 18446744073709551616) (hno : d = 0 ∨ d ≤ h) :
    Calls Try.prog 86 #[.func (.func 87) #[.agg #[.int .u64 (h : Int), .int .u64 (l : Int)]] #[], .int .u64 (d : Int)] w fun e w' =>
      e = .returned (.tuple #[.int .u64 0, .int .u64 0, .int .i64 100]) ∧ Fr S0 w w' := by
  by_cases h0 : d = 0
  · subst h0
    have HD := Lib.hid (fun W => div_zero h l W)
    go_enter Try.func86, Try.ntmps86
    go_wp2_with fail
    refine (HD.out _).mono ?_
    rintro e w1 ⟨rfl, f1⟩
    unfold nv
    go_wp2
    go_ret3
    exact ⟨rfl, f1.trans0 (Fr.alloc _ _ _)⟩
  · have HD := Lib.hid (fun W => div_any h l d W (by omega) hh hl h64)
    have hq : 1 ≤ h / d := by rw [Nat.le_div_iff_mul_le (by omega)]; omega
    obtain ⟨q, hqe⟩ : ∃ q, h / d = q := ⟨_, rfl⟩
    obtain ⟨Q, hQ⟩ : ∃ Q, (h % d * 18446744073709551616 + l) / d = Q := ⟨_, rfl⟩
    obtain ⟨R, hR⟩ : ∃ R, (h % d * 18446744073709551616 + l) % d = R := ⟨_, rfl⟩
    rw [hqe, hQ, hR] at HD
    rw [hqe] at hq
    have q2 : ((q : Int) != 0) = true := by rw [bne_iff_ne]; omega
    clear hqe hQ hR h0 hno
    go_enter Try.func86, Try.ntmps86
    go_wp2_with fail
    refine (HD.out _).mono ?_
    rintro e w1 ⟨rfl, f1⟩
    unfold nv
    go_wp2
    go_ret3
    exact ⟨rfl, f1.trans0 (Fr.alloc _ _ _)⟩

set_option maxRecDepth 100000 in
set_option maxHeartbeats 400000 in
theorem narrow_yes (h l d : Nat) (w : World) (hl : l < 18446744073709551616) (h64 : d < 18446744073709551616) (hd : h < d) :
    Calls Try.prog 86 #[.func (.func 87) #[.agg #[.int .u64 (h : Int), .int .u64 (l : Int)]] #[], .int .u64 (d : Int)] w fun e w' =>
      e = .returned (.tuple #[.int .u64 (((h * 18446744073709551616 + l) / d : Nat) : Int), .int .u64 (((h * 18446744073709551616 + l) % d : Nat) : Int), .int .i64 0]) ∧ Fr S0 w w' := by
  have HD := Lib.hid (fun W => div_any h l d W (by omega) (by omega) hl h64)
  have hq : h / d = 0 := Nat.div_eq_of_lt hd
  have hr : h % d = h := Nat.mod_eq_of_lt hd
  rw [hq, hr] at HD
  obtain ⟨Q, hQ⟩ : ∃ Q, (h * 18446744073709551616 + l) / d = Q := ⟨_, rfl⟩
  obtain ⟨R, hR⟩ : ∃ R, (h * 18446744073709551616 + l) % d = R := ⟨_, rfl⟩
  rw [hQ, hR] at HD ⊢
  clear hQ hR hq hr
  go_enter Try.func86, Try.ntmps86
  go_wp2_with fail
  refine (HD.out _).mono ?_
  rintro e w1 ⟨rfl, f1⟩
  unfold nv
  go_wp2
  go_ret3
  exact ⟨rfl, f1.trans0 (Fr.alloc _ _ _)⟩

theorem nv_eq (h l : Nat) : nv h l = .agg #[.int .u64 (h : Int), .int .u64 (l : Int)] := rfl
theorem makeF : ∀ (fn : Fn) (first cap : Array Value) (w : World), (Instr.makeFunc fn first cap).run Try.prog w = .ok (.func fn first cap) w := fun _ _ _ _ => rfl
theorem prod_lt {a b : Nat} (ha : a < 18446744073709551616) (hb : b < 18446744073709551616) : a * b / 18446744073709551616 < 18446744073709551616 := by
  have : a * b ≤ 18446744073709551615 * 18446744073709551615 := Nat.mul_le_mul (by omega) (by omega)
  omega
theorem quo_big (x d : Nat) (hd : 0 < d) : 18446744073709551616 ≤ x / d ↔ d ≤ x / 18446744073709551616 := by
  rw [Nat.le_div_iff_mul_le hd, Nat.le_div_iff_mul_le (by decide), Nat.mul_comm]

set_option maxRecDepth 100000 in
set_option maxHeartbeats 400000 in
theorem muldiv_no (a b d : Nat) (w : World) (ha : a < 18446744073709551616) (hb : b < 18446744073709551616) (h64 : d < 18446744073709551616) (hno : d = 0 ∨ 18446744073709551616 ≤ a * b / d) :
    Calls Try.prog 109 #[.int .u64 (a : Int), .int .u64 (b : Int), .int .u64 (d : Int)] w fun e w' => e = .returned (.tuple #[.int .u64 0, .int .u64 0, .int .i64 100]) ∧ Fr S0 w w' := by
  have hmf := makeF
  have HM := Lib.hid (fun W => mul_any a b W ha hb)
  have hh := prod_lt ha hb
  have hl := mod_word (a * b)
  have hn : d = 0 ∨ d ≤ a * b / 18446744073709551616 := by
    by_cases h0 : d = 0
    · exact .inl h0
    · exact .inr ((quo_big _ _ (by omega)).1 (hno.resolve_left h0))
  obtain ⟨H, hH⟩ : ∃ H, a * b / 18446744073709551616 = H := ⟨_, rfl⟩
  obtain ⟨L, hL⟩ : ∃ L, a * b % 18446744073709551616 = L := ⟨_, rfl⟩
  rw [hH, hL] at HM
  rw [hH] at hh hn
  rw [hL] at hl
  have HN := Lib.hid (fun W => narrow_no H L d W hh hl h64 hn)
  clear hH hL hno hn hh hl
  go_enter Try.func109, Try.ntmps109
  go_wp2_with fail
  refine (HM.out _).mono ?_
  rintro e w1 ⟨rfl, f1⟩
  rw [nv_eq]
  go_wp2_with fail
  refine (HN.out _).mono ?_
  rintro e w2 ⟨rfl, f2⟩
  go_wp2
  go_ret3
  exact ⟨rfl, f1.trans0 f2⟩

set_option maxRecDepth 100000 in
set_option maxHeartbeats 400000 in
theorem muldiv_yes (a b d : Nat) (w : World) (ha : a < 18446744073709551616) (hb : b < 18446744073709551616) (h64 : d < 18446744073709551616) (hd : 0 < d) (hy : a * b / d < 18446744073709551616) :
    Calls Try.prog 109 #[.int .u64 (a : Int), .int .u64 (b : Int), .int .u64 (d : Int)] w fun e w' =>
      e = .returned (.tuple #[.int .u64 ((a * b / d : Nat) : Int), .int .u64 ((a * b % d : Nat) : Int), .int .i64 0]) ∧ Fr S0 w w' := by
  have hmf := makeF
  have HM := Lib.hid (fun W => mul_any a b W ha hb)
  have hl := mod_word (a * b)
  have hlt : a * b / 18446744073709551616 < d := by
    by_cases h : a * b / 18446744073709551616 < d
    · exact h
    · exact absurd ((quo_big (a * b) d hd).2 (by omega)) (by omega)
  have hX : a * b / 18446744073709551616 * 18446744073709551616 + a * b % 18446744073709551616 = a * b := Nat.div_add_mod' _ _
  obtain ⟨H, hH⟩ : ∃ H, a * b / 18446744073709551616 = H := ⟨_, rfl⟩
  obtain ⟨L, hL⟩ : ∃ L, a * b % 18446744073709551616 = L := ⟨_, rfl⟩
  rw [hH, hL] at HM hX
  rw [hH] at hlt
  rw [hL] at hl
  have HN := Lib.hid (fun W => narrow_yes H L d W hl h64 hlt)
  rw [hX] at HN
  obtain ⟨Q, hQ⟩ : ∃ Q, a * b / d = Q := ⟨_, rfl⟩
  obtain ⟨R, hR⟩ : ∃ R, a * b % d = R := ⟨_, rfl⟩
  rw [hQ, hR] at HN ⊢
  clear hH hL hy hlt hl hX hQ hR
  go_enter Try.func109, Try.ntmps109
  go_wp2_with fail
  refine (HM.out _).mono ?_
  rintro e w1 ⟨rfl, f1⟩
  rw [nv_eq]
  go_wp2_with fail
  refine (HN.out _).mono ?_
  rintro e w2 ⟨rfl, f2⟩
  go_wp2
  go_ret3
  exact ⟨rfl, f1.trans0 f2⟩

/-- the least that isn't below, or none -/
def ceilR (a b d : Nat) : Option Nat := if d = 0 ∨ 18446744073709551616 ≤ a * b / d then none else if a * b % d = 0 then some (a * b / d) else if a * b / d = 18446744073709551615 then none else some (a * b / d + 1)
def optV (o : Option Nat) : Value := .tuple #[.int .u64 (o.getD 0 : Nat), .int .i64 (if o.isSome then 0 else 100)]

set_option maxRecDepth 100000 in
set_option maxHeartbeats 1000000 in
theorem ceil_any (a b d : Nat) (w : World) (ha : a < 18446744073709551616) (hb : b < 18446744073709551616) (h64 : d < 18446744073709551616) :
    Calls Try.prog 94 #[.int .u64 (a : Int), .int .u64 (b : Int), .int .u64 (d : Int)] w fun e w' => e = .returned (optV (ceilR a b d)) ∧ Fr S0 w w' := by
  unfold optV ceilR
  by_cases hno : d = 0 ∨ 18446744073709551616 ≤ a * b / d
  · rw [if_pos hno]
    have HM := Lib.hid (fun W => muldiv_no a b d W ha hb h64 hno)
    clear hno
    go_enter Try.func94, Try.ntmps94
    go_wp2_with fail
    refine (HM.out _).mono ?_
    rintro e w1 ⟨rfl, f1⟩
    go_wp2
    go_ret2
    exact ⟨rfl, f1⟩
  · rw [if_neg hno]
    have HM := Lib.hid (fun W => muldiv_yes a b d W ha hb h64 (by omega) (by omega))
    have hq : a * b / d < 18446744073709551616 := by omega
    obtain ⟨Q, hQ⟩ : ∃ Q, a * b / d = Q := ⟨_, rfl⟩
    obtain ⟨R, hR⟩ : ∃ R, a * b % d = R := ⟨_, rfl⟩
    rw [hQ, hR] at HM ⊢
    rw [hQ] at hq
    clear hno hQ hR
    by_cases r0 : R = 0
    · rw [if_pos r0]
      subst r0
      go_enter Try.func94, Try.ntmps94
      go_wp2_with fail
      refine (HM.out _).mono ?_
      rintro e w1 ⟨rfl, f1⟩
      go_wp2
      go_ret2
      exact ⟨rfl, f1⟩
    · rw [if_neg r0]
      have r1 : ((R : Int) == 0) = false := by rw [beq_eq_false_iff_ne]; omega
      by_cases q0 : Q = 18446744073709551615
      · rw [if_pos q0]
        have q1 : ((Q : Int) == 18446744073709551615) = true := by rw [beq_iff_eq]; omega
        clear q0
        go_enter Try.func94, Try.ntmps94
        go_wp2_with fail
        refine (HM.out _).mono ?_
        rintro e w1 ⟨rfl, f1⟩
        go_wp2
        go_ret2
        exact ⟨rfl, f1⟩
      · rw [if_neg q0]
        have q1 : ((Q : Int) == 18446744073709551615) = false := by rw [beq_eq_false_iff_ne]; omega
        have q2 : Q < 18446744073709551615 := by omega
        clear q0
        go_enter Try.func94, Try.ntmps94
        go_wp2_with fail
        refine (HM.out _).mono ?_
        rintro e w1 ⟨rfl, f1⟩
        go_wp2
        go_ret2
        exact ⟨rfl, f1⟩

/-- numbers with a sign, 2^63 above -/
def lft (v : Int) : Nat := (v + 9223372036854775808).toNat
theorem xor_top (n : Nat) (hn : n < 18446744073709551616) : n ^^^ 9223372036854775808 = (n + 9223372036854775808) % 18446744073709551616 := by
  have e1 : n = n / 9223372036854775808 * 9223372036854775808 + n % 9223372036854775808 := by omega
  have hm : n % 9223372036854775808 < 2 ^ 63 := Nat.mod_lt _ (by decide)
  have key : ∀ q m : Nat, m < 2 ^ 63 → (q * 9223372036854775808 + m) ^^^ 9223372036854775808 = (q ^^^ 1) * 9223372036854775808 + m := by
    intro q m hm
    apply Nat.eq_of_testBit_eq
    intro i
    rw [Nat.testBit_xor, show q * 9223372036854775808 = 2 ^ 63 * q by omega, show (q ^^^ 1) * 9223372036854775808 = 2 ^ 63 * (q ^^^ 1) by omega, Nat.testBit_two_pow_mul_add _ hm, Nat.testBit_two_pow_mul_add _ hm, show 9223372036854775808 = 2 ^ 63 * 1 by decide, Nat.testBit_two_pow_mul]
    by_cases hi : i < 63
    · simp [hi, show ¬ 63 ≤ i by omega]
    · simp [hi, show 63 ≤ i by omega]
  have hq : n / 9223372036854775808 = 0 ∨ n / 9223372036854775808 = 1 := by omega
  rw [e1, key _ _ hm]
  rcases hq with hq | hq <;> rw [hq] <;> simp <;> omega

set_option maxRecDepth 100000 in
set_option maxHeartbeats 400000 in
theorem lift_any (v : Int) (w : World) (h0 : -9223372036854775808 ≤ v) (h1 : v ≤ 9223372036854775807) :
    Calls Try.prog 85 #[.int .i64 v] w fun e w' => e = .returned (.int .u64 (lft v : Nat)) ∧ w = w' := by
  have hx : bits .xor .u64 (IntKind.u64.wrap v) 9223372036854775808 = ((lft v : Nat) : Int) := by
    obtain ⟨n, hn⟩ : ∃ n : Nat, IntKind.u64.wrap v = (n : Int) := ⟨(IntKind.u64.wrap v).toNat, by rw [IntKind.wrap_u64]; omega⟩
    have hn2 := hn
    rw [IntKind.wrap_u64] at hn2
    rw [hn]
    have := u64_xor_nat n 9223372036854775808 (by omega) (by decide)
    rw [xor_top n (by omega)] at this
    refine this.trans ?_
    unfold lft
    omega
  have HX := Lib.hid hx
  clear hx
  go_enter Try.func85, Try.ntmps85
  go_wp2
  go_ret
  exact ⟨congrArg (fun z => Ending.returned (Value.int .u64 z)) HX.out, rfl⟩

set_option maxRecDepth 100000 in
set_option maxHeartbeats 400000 in
theorem lower_any (n : Nat) (w : World) (hn : n < 18446744073709551616) :
    Calls Try.prog 88 #[.int .u64 (n : Int)] w fun e w' => e = .returned (.int .i64 ((n : Int) - 9223372036854775808)) ∧ w = w' := by
  have hx : bits .xor .u64 (n : Int) 9223372036854775808 = (((n + 9223372036854775808) % 18446744073709551616 : Nat) : Int) := by
    have := u64_xor_nat n 9223372036854775808 hn (by decide)
    rw [xor_top n hn] at this
    exact this
  have HW : Hid (wrap64 (((n + 9223372036854775808) % 18446744073709551616 : Nat) : Int) = (n : Int) - 9223372036854775808) := Lib.hid (by unfold wrap64; omega)
  obtain ⟨X, hX⟩ : ∃ X, (n + 9223372036854775808) % 18446744073709551616 = X := ⟨_, rfl⟩
  rw [hX] at hx HW
  clear hX
  go_enter Try.func88, Try.ntmps88
  go_wp2
  go_ret
  exact ⟨congrArg (fun z => Ending.returned (Value.int .i64 z)) HW.out, rfl⟩
end Go.Proofs.Ytbpfmjekpjfceaa
