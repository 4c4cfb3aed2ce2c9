/- What the references of layer 11 do. -/
import Derived.Test.YtegdhggilaehdaaRkRank
import Derived.Test.YtegdhggilaehdaaWdRef4
namespace Go.Proofs.Ytegdhggilaehdaa
open Go.RowKit

def ckN (a d : Nat) : Nat := if d = 0 ∨ d < a then 7 else 0
set_option maxRecDepth 100000 in
set_option maxHeartbeats 400000 in
theorem rcheck_any (a d : Nat) (w : World) :
    Calls Try.prog 35 #[.int .u64 (a : Int), .int .u64 (d : Int)] w fun e w' => e = .returned (.int .i64 (ckN a d : Nat)) ∧ Fr S0 w w' := by
  unfold ckN
  by_cases h0 : d = 0
  · subst h0
    rw [if_pos (.inl rfl)]
    go_enter Try.func35, Try.ntmps35
    go_wp2
    go_ret
    exact ⟨rfl, Fr.refl _ _⟩
  · have hd0 : ((d : Int) == 0) = false := by rw [beq_eq_false_iff_ne]; omega
    by_cases h : d < a
    · rw [if_pos (.inr h)]
      have hh : decide (d < a) = true := decide_eq_true h
      clear h h0
      go_enter Try.func35, Try.ntmps35
      go_wp2
      go_ret
      exact ⟨rfl, Fr.refl _ _⟩
    · rw [if_neg (by omega)]
      have hh : decide (d < a) = false := decide_eq_false h
      clear h h0
      go_enter Try.func35, Try.ntmps35
      go_wp2
      go_ret
      exact ⟨rfl, Fr.refl _ _⟩
theorem check_any (a d : Nat) (w : World) :
    Calls Try.prog 48 #[.int .u64 (a : Int), .int .u64 (d : Int)] w fun e w' => e = .returned (.int .i64 (ckN a d : Nat)) ∧ Fr S0 w w' := by
  unfold ckN
  by_cases h : d = 0 ∨ d < a
  · rw [if_pos h]
    exact check_no a d w h
  · rw [if_neg h]
    exact check_yes a d w (by omega) (by omega)

/-- which one of two fractions is more -/
def cmpF (a b c d : Nat) : Int := if b = 0 ∨ d = 0 then 0 else cmpI (a * d) (c * b)
set_option maxRecDepth 100000 in
set_option maxHeartbeats 400000 in
theorem rcmpp_zero (a b c d : Nat) (w : World) (h : b = 0 ∨ d = 0) :
    Calls Try.prog 25 #[.int .u64 (a : Int), .int .u64 (b : Int), .int .u64 (c : Int), .int .u64 (d : Int)] w fun e w' => e = .returned (.int .i64 0) ∧ Fr S0 w w' := by
  by_cases h0 : b = 0
  · subst h0
    clear h
    go_enter Try.func25, Try.ntmps25
    go_wp2
    go_ret
    exact ⟨rfl, Fr.refl _ _⟩
  · have hb0 : ((b : Int) == 0) = false := by rw [beq_eq_false_iff_ne]; omega
    obtain rfl : d = 0 := by omega
    clear h h0
    go_enter Try.func25, Try.ntmps25
    go_wp2
    go_ret
    exact ⟨rfl, Fr.refl _ _⟩

theorem prod_128 {a b : Nat} (ha : a < 18446744073709551616) (hb : b < 18446744073709551616) : a * b < 340282366920938463463374607431768211456 := by
  have := Nat.mul_le_mul (show a ≤ 18446744073709551615 by omega) (show b ≤ 18446744073709551615 by omega)
  omega
theorem cmpr_eq (x y : Nat) : cmpR x y = cmpI x y := rfl
set_option maxRecDepth 100000 in
set_option maxHeartbeats 1000000 in
theorem rcmpf_any (a b c d : Nat) (w : World) (ha : a < 18446744073709551616) (hb : b < 18446744073709551616) (hc : c < 18446744073709551616) (hd : d < 18446744073709551616) :
    Calls Try.prog 25 #[.int .u64 (a : Int), .int .u64 (b : Int), .int .u64 (c : Int), .int .u64 (d : Int)] w fun e w' => e = .returned (.int .i64 (cmpF a b c d)) ∧ Fr S0 w w' := by
  unfold cmpF
  by_cases h : b = 0 ∨ d = 0
  · rw [if_pos h]
    exact rcmpp_zero a b c d w h
  · rw [if_neg h]
    have hb0 : ((b : Int) == 0) = false := by rw [beq_eq_false_iff_ne]; omega
    have hd0 : ((d : Int) == 0) = false := by rw [beq_eq_false_iff_ne]; omega
    have HM1 := Lib.hid (fun W => rmul_any a d W ha hd)
    have HM2 := Lib.hid (fun W => rmul_any c b W hc hb)
    have HB := Lib.hid (And.intro (prod_128 ha hd) (prod_128 hc hb))
    obtain ⟨X, hX⟩ : ∃ X, a * d = X := ⟨_, rfl⟩
    obtain ⟨Y, hY⟩ : ∃ Y, c * b = Y := ⟨_, rfl⟩
    rw [hX] at HM1 HB ⊢
    rw [hY] at HM2 HB ⊢
    have HC := Lib.hid (fun p q c d W h1 h2 => rcmp_any p q c d X Y W h1 h2 HB.out.1 HB.out.2)
    rw [← cmpr_eq]
    obtain ⟨R, hR⟩ : ∃ R, cmpR X Y = R := ⟨_, rfl⟩
    rw [hR] at HC ⊢
    clear hX hY hR ha hb hc hd h HB
    go_enter Try.func25, Try.ntmps25
    go_wp2_with fail
    refine (HM1.out _).mono ?_
    rintro e w1 ⟨v1, rfl, p1, c1, rfl, d1, f1⟩
    go_wp2_with fail
    refine (HM2.out _).mono ?_
    rintro e w2 ⟨v2, rfl, p2, c2, rfl, d2, f2⟩
    have D1 := Lib.hid (d1.fr0 f2)
    have D2 := Lib.hid d2
    clear d1 d2
    go_wp2_with fail
    refine (HC.out _ _ _ _ _ D1.out D2.out).mono ?_
    rintro e w3 ⟨rfl, n3, rfl⟩
    go_wp2
    go_ret
    exact ⟨rfl, (f1.trans0 f2).trans0 (Fr.drewN _ _ _)⟩

section
variable (a d n : Nat) (w : World)
set_option maxRecDepth 100000 in
set_option maxHeartbeats 400000 in
theorem rrank_no (h : d = 0 ∨ d < a) :
    Calls Try.prog 20 #[.int .u64 (a : Int), .int .u64 (d : Int), .int .u64 (n : Int)] w fun e w' => e = .returned (.tuple #[.int .u64 0, .int .i64 7]) ∧ Fr S0 w w' := by
  have HC := Lib.hid (fun W => rcheck_any a d W)
  rw [show ckN a d = 7 by unfold ckN; exact if_pos h] at HC
  clear h
  go_enter Try.func20, Try.ntmps20
  go_wp2_with fail
  refine (HC.out _).mono ?_
  rintro e w1 ⟨rfl, f1⟩
  go_wp2
  go_ret2
  exact ⟨rfl, f1⟩
set_option maxRecDepth 100000 in
set_option maxHeartbeats 400000 in
theorem rrank_none (hd : 0 < d) (h : a ≤ d) :
    Calls Try.prog 20 #[.int .u64 (a : Int), .int .u64 (d : Int), .int .u64 0] w fun e w' => e = .returned (.tuple #[.int .u64 0, .int .i64 8]) ∧ Fr S0 w w' := by
  have HC := Lib.hid (fun W => rcheck_any a d W)
  rw [show ckN a d = 0 by unfold ckN; exact if_neg (by omega)] at HC
  clear h hd
  go_enter Try.func20, Try.ntmps20
  go_wp2_with fail
  refine (HC.out _).mono ?_
  rintro e w1 ⟨rfl, f1⟩
  go_wp2
  go_ret2
  exact ⟨rfl, f1⟩
set_option maxRecDepth 100000 in
set_option maxHeartbeats 1000000 in
theorem rrank_yes (hn : n < 18446744073709551616) (h64 : d < 18446744073709551616) (n0 : 0 < n) (hd : 0 < d) (h : a ≤ d) :
    Calls Try.prog 20 #[.int .u64 (a : Int), .int .u64 (d : Int), .int .u64 (n : Int)] w fun e w' => e = .returned (.tuple #[.int .u64 (rnk a d n : Nat), .int .i64 0]) ∧ Fr S0 w w' := by
  have HC := Lib.hid (fun W => rcheck_any a d W)
  rw [show ckN a d = 0 by unfold ckN; exact if_neg (by omega)] at HC
  have hq := quo_all (n := n) h
  have hp := quo_part (n := n) h
  have HM := Lib.hid (fun W => rmuldiv_yes a n d W (by omega) hn h64 hd (by omega))
  have hn0 : ((n : Int) == 0) = false := by rw [beq_eq_false_iff_ne]; omega
  unfold rnk clg
  obtain ⟨Q, hQ⟩ : ∃ Q, a * n / d = Q := ⟨_, rfl⟩
  obtain ⟨R, hR⟩ : ∃ R, a * n % d = R := ⟨_, rfl⟩
  rw [hQ, hR] at HM hp ⊢
  rw [hQ] at hq
  clear hQ hR h hd h64
  by_cases r0 : R = 0
  · rw [if_pos r0]
    subst r0
    by_cases q0 : Q = 0
    · subst q0
      rw [show max 1 0 = 1 by decide]
      clear hp hq
      go_enter Try.func20, Try.ntmps20
      go_wp2_with fail
      refine (HC.out _).mono ?_
      rintro e w1 ⟨rfl, f1⟩
      go_wp2_with fail
      refine (HM.out _).mono ?_
      rintro e w2 ⟨rfl, f2⟩
      go_wp2
      go_ret2
      exact ⟨rfl, f1.trans0 f2⟩
    · rw [show max 1 Q = Q by omega]
      have q1 : ((Q : Int) == 0) = false := by rw [beq_eq_false_iff_ne]; omega
      clear hp hq q0
      go_enter Try.func20, Try.ntmps20
      go_wp2_with fail
      refine (HC.out _).mono ?_
      rintro e w1 ⟨rfl, f1⟩
      go_wp2_with fail
      refine (HM.out _).mono ?_
      rintro e w2 ⟨rfl, f2⟩
      go_wp2
      go_ret2
      exact ⟨rfl, f1.trans0 f2⟩
  · rw [if_neg r0]
    have hQn := hp r0
    have r1 : decide (0 < R) = true := decide_eq_true (by omega)
    rw [show max 1 (Q + 1) = Q + 1 by omega]
    have q2 : Q + 1 < 18446744073709551616 := by omega
    clear hp hq r0 hQn hn
    go_enter Try.func20, Try.ntmps20
    go_wp2_with fail
    refine (HC.out _).mono ?_
    rintro e w1 ⟨rfl, f1⟩
    go_wp2_with fail
    refine (HM.out _).mono ?_
    rintro e w2 ⟨rfl, f2⟩
    go_wp2
    go_ret2
    exact ⟨rfl, f1.trans0 f2⟩
theorem rrank_any (hn : n < 18446744073709551616) (h64 : d < 18446744073709551616) :
    Calls Try.prog 20 #[.int .u64 (a : Int), .int .u64 (d : Int), .int .u64 (n : Int)] w fun e w' => e = .returned (.tuple #[.int .u64 (rkR a d n : Nat), .int .i64 (rkE a d n : Nat)]) ∧ Fr S0 w w' := by
  unfold rkR rkE
  by_cases h : d = 0 ∨ d < a
  · rw [if_pos h, if_pos h]
    exact rrank_no a d n w h
  · rw [if_neg h, if_neg h]
    by_cases h0 : n = 0
    · rw [if_pos h0, if_pos h0]
      subst h0
      exact rrank_none a d w (by omega) (by omega)
    · rw [if_neg h0, if_neg h0]
      exact rrank_yes a d n w hn h64 (by omega) (by omega) (by omega)

end

end Go.Proofs.Ytegdhggilaehdaa
