/- The document's quotient, bit by bit; a product's quotient. -/
import Derived.Test.YtegdhggilaehdaaWdRef3
namespace Go.Proofs.Ytegdhggilaehdaa
open Go.RowKit

theorem digs_zero_pow (k : Nat) : digs 8 (0 * 2 ^ k) = digs 8 0 := by rw [Nat.zero_mul]
/-- a bit of a quotient: what is taken off -/
theorem take_d {L d bit : Nat} (hL : L < d) (hb : bit ≤ 1) (h : d ≤ 2 * L + bit) : (2 * L + bit) / d = 1 ∧ (2 * L + bit) % d = 2 * L + bit - d := by
  have e : 2 * L + bit = d * 1 + (2 * L + bit - d) := by omega
  have h2 : 2 * L + bit - d < d := by omega
  constructor
  · rw [e, Nat.mul_add_div (by omega), Nat.div_eq_of_lt (by omega)]
  · conv => lhs; rw [e, Nat.mul_add_mod]
    exact Nat.mod_eq_of_lt h2

set_option maxRecDepth 100000 in
set_option maxHeartbeats 2000000 in
theorem rdiv_any (p : Option Addr) (c x d : Nat) (w : World) (hx : Dig w p x) (bx : x < 340282366920938463463374607431768211456) (hd : 0 < d) (h64 : d < 18446744073709551616) :
    Calls Try.prog 46 #[.slice p 8 c, .int .u64 (d : Int)] w fun e w' => ∃ v, e = .returned (.tuple #[v, .int .u64 (x % d : Nat)]) ∧ NewDig w w' v (x / d) := by
  have HX := Lib.hid hx
  have hmk := make8
  have hs0 : x / 2 ^ 128 = 0 := Nat.div_eq_of_lt (by omega)
  have HS0 : Hid (x / 2 ^ 128 / d = 0 ∧ x / 2 ^ 128 % d = 0) := Lib.hid (by rw [hs0, Nat.zero_div, Nat.zero_mod]; exact ⟨rfl, rfl⟩)
  have O3 := Lib.hid (own8 w)
  have F3 : Hid (Fr S0 w (w.alloc (.cells #[.int .u64 0, .int .u64 0, .int .u64 0, .int .u64 0, .int .u64 0, .int .u64 0, .int .u64 0, .int .u64 0] 29))) := Lib.hid (Fr.alloc _ _ _)
  obtain ⟨g, hg⟩ : ∃ g, w.heap.size = g := ⟨_, rfl⟩
  have HG : Hid (w.heap.size ≤ g) := Lib.hid (by omega)
  have HGE := Lib.hid hg
  rw [hg] at O3
  clear hx bx hs0 hg
  go_enter Try.func46, Try.ntmps46
  go_wp2_with fail
  rw [HGE.out]
  go_loopw [7, 8, 9] (fun m i _ wr => ∃ (j Q L : Nat), j ≤ 128 ∧ i = .int .i64 (127 - (j : Int)) ∧ m = .int .u64 L ∧ x / 2 ^ (128 - j) / d = Q ∧ x / 2 ^ (128 - j) % d = L ∧ Fr S0 w wr ∧ wr.ownsRow 0 29 1 (.slice (some ⟨g, 0, none⟩) 8 8) 8 (u64s (digs 8 (Q * 2 ^ (128 - j))))) (fun _ i _ _ => (intOf i + 1).toNat)
  case atStart => exact ⟨0, 0, 0, by omega, rfl, rfl, HS0.out.1, HS0.out.2, F3.out, by rw [digs_zero_pow]; exact O3.out⟩
  case round =>
    obtain ⟨j, Q, L, hj, rfl, rfl, hQ, hL, hfr, own⟩ := hrel
    by_cases h8 : j < 128
    · obtain ⟨i, hi⟩ : ∃ i, 127 - j = i := ⟨_, rfl⟩
      rw [show 128 - j = i + 1 by omega] at hQ hL own
      have hLd : L < d := by rw [← hL]; exact Nat.mod_lt _ hd
      obtain ⟨n1, n2, -⟩ := quo_step hQ hL hd
      have hb := bit_at x i
      have hb1 : x / 2 ^ i % 2 ≤ 1 := by omega
      obtain ⟨bit, hbit⟩ : ∃ bit, x / 2 ^ i % 2 = bit := ⟨_, rfl⟩
      rw [hbit] at n1 n2 hb hb1
      obtain ⟨b, o, rfl, hc⟩ := (HX.out.fr0 hfr).at (i / 16) (by omega)
      obtain ⟨r, hr⟩ : ∃ r, i % 16 = r := ⟨_, rfl⟩
      obtain ⟨q, hq⟩ : ∃ q, i / 16 = q := ⟨_, rfl⟩
      have hdb := digs_bit Q i (by omega)
      have hro := digit_room Q i
      rw [hr] at hb hdb hro
      rw [hq] at hb hdb hro hc
      have hqi : ((i : Int) / 16) = (q : Int) := by omega
      have hri : ((i : Int) % 16) = (r : Int) := by omega
      have hq8 : (q : Int) < 8 := by omega
      have hr8 : (r : Int) < 16 := by omega
      obtain ⟨X, hX⟩ : ∃ X, dg x q = X := ⟨_, rfl⟩
      rw [hX] at hc hb
      have c0 := row_at own q (by omega)
      have z0 := own.frozenAt q
      rw [digs_at 8 _ q (by omega)] at c0
      have c0' : wr.cell? ⟨g, q, none⟩ = some (.int .u64 (dg (Q * 2 ^ (i + 1)) q : Nat)) := c0
      obtain ⟨O, hO⟩ : ∃ O, dg (Q * 2 ^ (i + 1)) q = O := ⟨_, rfl⟩
      rw [hO] at c0' hdb hro
      obtain ⟨T, hT⟩ : ∃ T, 2 ^ r = T := ⟨_, rfl⟩
      have wT : IntKind.u64.wrap ((2 : Int) ^ r) = (T : Int) := wrap_nat (by rw [← hT, Int.natCast_pow]; rfl) (by omega)
      obtain ⟨V, hV⟩ : ∃ V, X / 2 ^ r = V := ⟨_, rfl⟩
      have wv : (X : Int) / 2 ^ r = (V : Int) := by rw [← hV, Int.natCast_ediv, Int.natCast_pow]; rfl
      rw [hV] at hb
      have wb : (V : Int) % 2 = (bit : Int) := by omega
      have V0 : (0 : Int) ≤ (V : Int) := by omega
      have ei : 127 - (j : Int) = (i : Int) := by omega
      have HI : Hid (128 - (j + 1) = i) := Lib.hid (by omega)
      rw [hT] at hdb hro
      have HDB := Lib.hid hdb
      have HN1 := Lib.hid n1
      have HN2 := Lib.hid n2
      have HO := Lib.hid own
      have HF := Lib.hid hfr
      rw [ei]
      clear hi hQ hL hb hbit hr hq hX c0 hO hT ei hdb own hfr n1 n2 hV
      by_cases hA : (9223372036854775808 : Int) ≤ (L : Int)
      · obtain ⟨M, hM⟩ : ∃ M, 2 * L = M + 18446744073709551616 := ⟨2 * L - 18446744073709551616, by omega⟩
        obtain ⟨t1, t2⟩ := take_d hLd hb1 (by omega)
        obtain ⟨R, hR⟩ : ∃ R, 2 * L + bit - d = R := ⟨_, rfl⟩
        have wM : IntKind.u64.wrap (2 * (L : Int)) = (M : Int) := by rw [IntKind.wrap_u64]; omega
        have wR : IntKind.u64.wrap ((M : Int) + (bit : Int) - (d : Int)) = (R : Int) := by rw [IntKind.wrap_u64]; omega
        have bM : M + bit < 18446744073709551616 := by omega
        rw [hR] at t2
        have T1 := Lib.hid t1
        have T2 := Lib.hid t2
        clear hM hR t1 t2
        have HRS : Hid ((wr.setCell ⟨g, q, none⟩ (.int .u64 ((O : Int) + (T : Int)))).ownsRow 0 29 1 (.slice (some ⟨g, 0, none⟩) 8 8) 8 (u64s (digs 8 ((2 * Q + 1) * 2 ^ i))) ∧ Fr S0 w (wr.setCell ⟨g, q, none⟩ (.int .u64 ((O : Int) + (T : Int))))) := Lib.hid (by
          have r := row_set HO.out HF.out HG.out q (O + T)
          rw [HDB.out, Int.natCast_add] at r
          exact r)
        go_wp2_with fail
        go_roundw
        case rel => exact ⟨j + 1, 2 * Q + 1, R, by omega, congrArg (Value.int .i64) (by have := HI.out; omega), rfl, by rw [HI.out, HN1.out, T1.out], by rw [HI.out, HN2.out, T2.out], HRS.out.2, by rw [HI.out]; exact HRS.out.1⟩
        case measure => simp [intOf]
      · have dA : decide ((9223372036854775808 : Int) ≤ (L : Int)) = false := decide_eq_false hA
        by_cases hB : (d : Int) ≤ 2 * (L : Int) + (bit : Int)
        · obtain ⟨t1, t2⟩ := take_d hLd hb1 (by omega)
          obtain ⟨R, hR⟩ : ∃ R, 2 * L + bit - d = R := ⟨_, rfl⟩
          have ER : Hid (2 * (L : Int) + (bit : Int) - (d : Int) = (R : Int)) := Lib.hid (by omega)
          rw [hR] at t2
          have T1 := Lib.hid t1
          have T2 := Lib.hid t2
          clear hR t1 t2
          have HRS : Hid ((wr.setCell ⟨g, q, none⟩ (.int .u64 ((O : Int) + (T : Int)))).ownsRow 0 29 1 (.slice (some ⟨g, 0, none⟩) 8 8) 8 (u64s (digs 8 ((2 * Q + 1) * 2 ^ i))) ∧ Fr S0 w (wr.setCell ⟨g, q, none⟩ (.int .u64 ((O : Int) + (T : Int))))) := Lib.hid (by
            have r := row_set HO.out HF.out HG.out q (O + T)
            rw [HDB.out, Int.natCast_add] at r
            exact r)
          go_wp2_with fail
          go_roundw
          case rel => exact ⟨j + 1, 2 * Q + 1, R, by omega, congrArg (Value.int .i64) (by have := HI.out; omega), congrArg (Value.int .u64) ER.out, by rw [HI.out, HN1.out, T1.out], by rw [HI.out, HN2.out, T2.out], HRS.out.2, by rw [HI.out]; exact HRS.out.1⟩
          case measure => simp [intOf]
        · have dB : decide ((d : Int) ≤ 2 * (L : Int) + (bit : Int)) = false := decide_eq_false hB
          have T1 : Hid ((2 * L + bit) / d = 0) := Lib.hid (Nat.div_eq_of_lt (by omega))
          have T2 : Hid ((2 * L + bit) % d = 2 * L + bit) := Lib.hid (Nat.mod_eq_of_lt (by omega))
          have HE : Hid (Q * 2 ^ (i + 1) = 2 * Q * 2 ^ i) := Lib.hid (by rw [Nat.pow_succ, Nat.mul_comm (2 ^ i) 2, ← Nat.mul_assoc, Nat.mul_comm Q 2])
          go_wp2_with fail
          go_roundw
          case rel => exact ⟨j + 1, 2 * Q, 2 * L + bit, by omega, congrArg (Value.int .i64) (by have := HI.out; omega), by go_num, by rw [HI.out, HN1.out, T1.out, Nat.add_zero], by rw [HI.out, HN2.out, T2.out], HF.out, by rw [HI.out, ← HE.out]; exact HO.out⟩
          case measure => simp [intOf]
    · obtain rfl : j = 128 := by omega
      rw [Nat.sub_self, Nat.pow_zero] at hQ hL own
      rw [Nat.div_one] at hQ hL
      rw [Nat.mul_one] at own
      have HL := Lib.hid hL
      have HN : Hid (NewDig w wr (.slice (some ⟨g, 0, none⟩) 8 8) (x / d)) := Lib.hid (NewDig.mk (by rw [hQ]; exact own) hfr)
      clear hQ hL own hfr
      go_wp2
      go_ret2
      exact ⟨_, by rw [HL.out]; rfl, HN.out⟩

set_option maxRecDepth 100000 in
set_option maxHeartbeats 1000000 in
theorem rmuldiv_no (a b d : Nat) (w : World) (ha : a < 18446744073709551616) (hb : b < 18446744073709551616) (h64 : d < 18446744073709551616) (hno : d = 0 ∨ 18446744073709551616 ≤ a * b / d) :
    Calls Try.prog 36 #[.int .u64 (a : Int), .int .u64 (b : Int), .int .u64 (d : Int)] w fun e w' => e = .returned (.tuple #[.int .u64 0, .int .u64 0, .bool false]) ∧ Fr S0 w w' := by
  by_cases h0 : d = 0
  · subst h0
    clear hno
    go_enter Try.func36, Try.ntmps36
    go_wp2
    go_ret3
    exact ⟨rfl, Fr.refl _ _⟩
  · have hq := hno.resolve_left h0
    have hd0 : ((d : Int) == 0) = false := by rw [beq_eq_false_iff_ne]; omega
    have hp : a * b < 340282366920938463463374607431768211456 := by
      have := Nat.mul_le_mul (show a ≤ 18446744073709551615 by omega) (show b ≤ 18446744073709551615 by omega)
      omega
    have HM := Lib.hid (fun W => rmul_any a b W ha hb)
    obtain ⟨X, hX⟩ : ∃ X, a * b = X := ⟨_, rfl⟩
    rw [hX] at HM hq hp
    have HD := Lib.hid (fun p c W h => rdiv_any p c X d W h hp (by omega) h64)
    have hq2 : X / d < 340282366920938463463374607431768211456 := Nat.lt_of_le_of_lt (Nat.div_le_self _ _) hp
    obtain ⟨Q, hQ⟩ : ∃ Q, X / d = Q := ⟨_, rfl⟩
    obtain ⟨R, hR⟩ : ∃ R, X % d = R := ⟨_, rfl⟩
    rw [hQ, hR] at HD
    rw [hQ] at hq hq2
    have HN := Lib.hid (fun p c W (h : Dig W p Q) => rnumber_any p c Q 4 W h (by decide))
    have e4 : Q / 65536 ^ 4 % 18446744073709551616 = Q / 18446744073709551616 := by
      rw [show (65536 : Nat) ^ 4 = 18446744073709551616 by decide]
      exact Nat.mod_eq_of_lt (by omega)
    have g4 : 0 < Q / 18446744073709551616 := by omega
    obtain ⟨K, hK⟩ : ∃ K, Q / 18446744073709551616 = K := ⟨_, rfl⟩
    rw [e4, hK] at HN
    rw [hK] at g4
    have gi : (K : Int) > 0 := by omega
    clear h0 hno hX hQ hR e4 hK hq hq2 hp ha hb h64
    go_enter Try.func36, Try.ntmps36
    go_wp2_with fail
    refine (HM.out _).mono ?_
    rintro e w1 ⟨v1, rfl, p1, c1, rfl, d1, f1⟩
    go_wp2_with fail
    refine (HD.out _ _ _ d1).mono ?_
    rintro e w2 ⟨v2, rfl, p2, c2, rfl, d2, f2⟩
    go_wp2_with fail
    refine (HN.out _ _ _ d2).mono ?_
    rintro e w3 ⟨rfl, rfl⟩
    go_wp2
    go_ret3
    exact ⟨rfl, f1.trans0 f2⟩

set_option maxRecDepth 100000 in
set_option maxHeartbeats 1000000 in
theorem rmuldiv_yes (a b d : Nat) (w : World) (ha : a < 18446744073709551616) (hb : b < 18446744073709551616) (h64 : d < 18446744073709551616) (hd : 0 < d) (hy : a * b / d < 18446744073709551616) :
    Calls Try.prog 36 #[.int .u64 (a : Int), .int .u64 (b : Int), .int .u64 (d : Int)] w fun e w' =>
      e = .returned (.tuple #[.int .u64 ((a * b / d : Nat) : Int), .int .u64 ((a * b % d : Nat) : Int), .bool true]) ∧ Fr S0 w w' := by
  have hd0 : ((d : Int) == 0) = false := by rw [beq_eq_false_iff_ne]; omega
  have hp : a * b < 340282366920938463463374607431768211456 := by
    have := Nat.mul_le_mul (show a ≤ 18446744073709551615 by omega) (show b ≤ 18446744073709551615 by omega)
    omega
  have HM := Lib.hid (fun W => rmul_any a b W ha hb)
  obtain ⟨X, hX⟩ : ∃ X, a * b = X := ⟨_, rfl⟩
  rw [hX] at HM hy hp ⊢
  have HD := Lib.hid (fun p c W h => rdiv_any p c X d W h hp hd h64)
  obtain ⟨Q, hQ⟩ : ∃ Q, X / d = Q := ⟨_, rfl⟩
  obtain ⟨R, hR⟩ : ∃ R, X % d = R := ⟨_, rfl⟩
  rw [hQ, hR] at HD
  rw [hQ] at hy
  rw [hQ, hR]
  have HN := Lib.hid (fun p c W (h : Dig W p Q) => rnumber_any p c Q 4 W h (by decide))
  have HL := Lib.hid (fun p c W (h : Dig W p Q) => rnumber_any p c Q 0 W h (by decide))
  rw [show Q / 65536 ^ 4 % 18446744073709551616 = 0 by rw [show (65536 : Nat) ^ 4 = 18446744073709551616 by decide]; omega] at HN
  rw [show Q / 65536 ^ 0 % 18446744073709551616 = Q by rw [Nat.pow_zero, Nat.div_one]; omega] at HL
  clear hX hQ hR hp ha hb h64 hd
  go_enter Try.func36, Try.ntmps36
  go_wp2_with fail
  refine (HM.out _).mono ?_
  rintro e w1 ⟨v1, rfl, p1, c1, rfl, d1, f1⟩
  go_wp2_with fail
  refine (HD.out _ _ _ d1).mono ?_
  rintro e w2 ⟨v2, rfl, p2, c2, rfl, d2, f2⟩
  go_wp2_with fail
  refine (HN.out _ _ _ d2).mono ?_
  rintro e w3 ⟨rfl, rfl⟩
  go_wp2_with fail
  refine (HL.out _ _ _ d2).mono ?_
  rintro e w3 ⟨rfl, rfl⟩
  go_wp2
  go_ret3
  exact ⟨rfl, f1.trans0 f2⟩
end Go.Proofs.Ytegdhggilaehdaa
