/- WdBits -/
import Derived.Test.YtbpfmjekpjfceaaPm1
import Derived.Test.YtbpfmjekpjfceaaPm16
import Derived.Test.YtbpfmjekpjfceaaPm17
import Derived.Laws.Externs
import Derived.Shelf.Spec.BitsCarry
import Derived.Deep.CutBlock
import Derived.Deep.CutRange
import Derived.Deep.DeepCutAuto
import Derived.Lib.BitFns
import Derived.Shelf.Small.Bits
import Derived.Shelf.Strconv.Itoa0
import Derived.Shelf.Bits.Mul64
import Derived.Test.YtbpfmjekpjfceaaRows
import Derived.WalkKit
import Derived.WalkSpells
import Derived.WalkLawsBesides
import Derived.Deep.QuietTactic
import Derived.BigQuiet
import Derived.RegionTactic
import Derived.Deep.AppendLies
import Derived.Deep.RegionLaw
import Derived.Laws.ResultCell
import Derived.Laws.EntriesVeiled
import Derived.Lib.Hide
set_option maxRecDepth 100000
set_option maxHeartbeats 8000000
namespace Go.Proofs.Ytbpfmjekpjfceaa
open Go.RowKit
theorem run_add (x y c : Nat) (hc : c ≤ 1) (w : World) : (callFunc 82 #[.int .u64 (x : Int), .int .u64 (y : Int), .int .u64 (c : Int)]).run Try.prog w =
    .ok (.value (.tuple #[.int .u64 (((x + y + c) % 18446744073709551616 : Nat) : Int), .int .u64 (((x + y + c) / 18446744073709551616 : Nat) : Int)])) w := by
  rw [run_callFunc_extern Try.func82 (by kernel_rfl) (by kernel_rfl) (by kernel_rfl) (e := add64Entry) (by kernel_rfl), run_add64 x y c (by omega) (by omega) (by omega) (by omega)]
  simp only [Result.andThen]
  congr 5 <;> omega
theorem ret2 {k j : IntKind} {a b c d : Int} (h : a = c) (h' : b = d) : Ending.returned (.tuple #[.int k a, .int j b]) = .returned (.tuple #[.int k c, .int j d]) := by rw [h, h']
theorem wrap_nat {x : Int} {n : Nat} (h : x = n) (hn : n < 18446744073709551616) : IntKind.u64.wrap x = (n : Int) := by rw [IntKind.wrap_u64]; omega
theorem div64_low (lo y : Nat) (w : World) (hl : lo < 18446744073709551616) (h0 : 0 < y) (h64 : y < 18446744073709551616) :
    Calls Try.prog 107 #[.int .u64 (0 : Int), .int .u64 (lo : Int), .int .u64 (y : Int)] w fun e w' => e = .returned (.tuple #[.int .u64 ((lo / y : Nat) : Int), .int .u64 ((lo % y : Nat) : Int)]) ∧ ∃ n, w' = w.drewN n := by
  have h1 : (1 : Int) ≤ (y : Int) := by omega
  have h2 : ((y : Int) == 0) = false := by rw [beq_eq_false_iff_ne]; omega
  have h3 : decide ((y : Int) ≤ 0) = false := decide_eq_false (by omega)
  go_enter Try.func107, Try.ntmps107
  go_wp2
  go_quiet (fail)
  go_wp2
  go_ret2
  exact ⟨ret2 (wrap_nat (Int.natCast_ediv _ _).symm (Nat.lt_of_le_of_lt (Nat.div_le_self _ _) hl)) (Int.natCast_emod _ _).symm, _, rfl⟩
theorem mod_word (x : Nat) : x % 18446744073709551616 < 18446744073709551616 := Nat.mod_lt _ (by decide)
theorem wrap_mod (x : Int) (n : Nat) (h : x = n) : IntKind.u64.wrap x = ((n % 18446744073709551616 : Nat) : Int) := by rw [IntKind.wrap_u64, h]; omega
theorem left_word {u c y q r A1 A2 : Nat} (hA1 : A1 = u * 4294967296 % 18446744073709551616) (hA2 : A2 = q * y % 18446744073709551616) (h : q * y + r = u * 4294967296 + c) (hr : r < 18446744073709551616) :
    IntKind.u64.wrap ((A1 : Int) + (c : Int) - (A2 : Int)) = (r : Int) := by
  rw [IntKind.wrap_u64]
  generalize q * y = P at h hA2
  omega
theorem div64_any (hi lo y : Nat) (w : World) (hh : 0 < hi) (hl : lo < 18446744073709551616) (hy : hi < y) (h64 : y < 18446744073709551616) :
    Calls Try.prog 107 #[.int .u64 (hi : Int), .int .u64 (lo : Int), .int .u64 (y : Int)] w fun e w' =>
      e = .returned (.tuple #[.int .u64 (((hi * 18446744073709551616 + lo) / y : Nat) : Int), .int .u64 (((hi * 18446744073709551616 + lo) % y : Nat) : Int)]) ∧ w = w' := by
  have h2 : ((y : Int) == 0) = false := by rw [beq_eq_false_iff_ne]; omega
  have h3 : decide (y ≤ hi) = false := decide_eq_false (by omega)
  have h4 : ((hi : Int) == 0) = false := by rw [beq_eq_false_iff_ne]; omega
  have HLZ := Lib.hid (bits_LeadingZeros64 (y : Int) w (by omega) (by omega))
  obtain ⟨s, hs⟩ : ∃ s, s = 64 - Lib.bitLen y := ⟨_, rfl⟩
  have hnb := norm_bd y s (by omega) h64 hs
  have HS : Hid ((64 : Int) - (Lib.bitLen ((y : Int).toNat) : Int) = (s : Int)) := Lib.hid (by
    have := bitLen_le y (by omega) h64
    rw [Int.toNat_natCast]
    omega)
  have hs64 : s ≤ 64 := by omega
  have hs0 : (0 : Int) ≤ (s : Int) := by omega
  have hw2 := shift_words hi lo s hs64
  have p2 : 0 < 2 ^ s := Nat.pow_pos (by decide)
  have e64 : 2 ^ (64 - s) * 2 ^ s = 18446744073709551616 := by rw [← Nat.pow_add, show 64 - s + s = 64 by omega]
  have hXY : (hi * 18446744073709551616 + lo) * 2 ^ s < y * 18446744073709551616 * 2 ^ s := Nat.mul_lt_mul_of_pos_right (by omega) p2
  have hHY : hi * 2 ^ s < y * 2 ^ s := Nat.mul_lt_mul_of_pos_right hy p2
  have hGp : lo / 2 ^ (64 - s) < 2 ^ s := by
    rw [Nat.div_lt_iff_lt_mul (Nat.pow_pos (by decide)), Nat.mul_comm, e64]
    exact hl
  have SH := Lib.hid (shifted (hi * 18446744073709551616 + lo) y (2 ^ s) p2)
  rw [Nat.mul_right_comm y] at hXY
  obtain ⟨X, hX⟩ : ∃ X, hi * 18446744073709551616 + lo = X := ⟨_, rfl⟩
  rw [hX] at hXY SH hw2
  rw [hX]
  obtain ⟨Y, hY⟩ : ∃ Y, y * 2 ^ s = Y := ⟨_, rfl⟩
  obtain ⟨H, hH⟩ : ∃ H, hi * 2 ^ s = H := ⟨_, rfl⟩
  obtain ⟨G, hG⟩ : ∃ G, lo / 2 ^ (64 - s) = G := ⟨_, rfl⟩
  obtain ⟨T, hT⟩ : ∃ T, lo * 2 ^ s % 18446744073709551616 = T := ⟨_, rfl⟩
  have wY : IntKind.u64.wrap ((y : Int) * 2 ^ s) = (Y : Int) := wrap_nat (by rw [← hY, Int.natCast_mul, Int.natCast_pow]; rfl) (by omega)
  have wH : IntKind.u64.wrap ((hi : Int) * 2 ^ s) = (H : Int) := wrap_nat (by rw [← hH, Int.natCast_mul, Int.natCast_pow]; rfl) (by omega)
  have wG : (lo : Int) / 2 ^ (64 - s) = (G : Int) := by rw [← hG, Int.natCast_ediv, Int.natCast_pow]; rfl
  have wT : IntKind.u64.wrap ((lo : Int) * 2 ^ s) = (T : Int) := by rw [← hT]; exact wrap_mod _ _ (by rw [Int.natCast_mul, Int.natCast_pow]; rfl)
  have hor : H ||| G = H + G := by rw [← hH, ← Nat.shiftLeft_eq, Nat.shiftLeft_add_eq_or_of_lt (by rw [← hG]; exact hGp)]
  rw [hH, hG, hT] at hw2
  rw [hG] at hGp
  rw [hY] at hnb hHY hXY SH
  rw [hH] at hHY
  obtain ⟨y1, y2⟩ := hnb
  have hT2 : T < 18446744073709551616 := by rw [← hT]; exact mod_word _
  obtain ⟨U, hU⟩ : ∃ U, H + G = U := ⟨_, rfl⟩
  rw [hU] at hw2 hor
  have hUY : U < Y := by
    generalize X * 2 ^ s = Z at hw2 hXY
    omega
  have wU : bits .or .u64 (H : Int) (G : Int) = (U : Int) := by rw [u64_or_nat H G (by omega) (by omega), hor]
  have wa : (Y : Int) / 4294967296 = ((Y / 4294967296 : Nat) : Int) := by omega
  have wb := Mul64.maskN Y y2
  have wc : (T : Int) / 4294967296 = ((T / 4294967296 : Nat) : Int) := by omega
  have we := Mul64.maskN T hT2
  have hYab : Y = Y / 4294967296 * 4294967296 + Y % 4294967296 := by omega
  have hTce : T = T / 4294967296 * 4294967296 + T % 4294967296 := by omega
  have ha1 : 2147483648 ≤ Y / 4294967296 ∧ Y / 4294967296 < 4294967296 := by omega
  have hb1 : Y % 4294967296 < 4294967296 := Nat.mod_lt _ (by decide)
  have hc1 : T / 4294967296 < 4294967296 := by omega
  have he1 : T % 4294967296 < 4294967296 := Nat.mod_lt _ (by decide)
  obtain ⟨a, ha⟩ : ∃ a, Y / 4294967296 = a := ⟨_, rfl⟩
  obtain ⟨b, hb⟩ : ∃ b, Y % 4294967296 = b := ⟨_, rfl⟩
  obtain ⟨c, hc⟩ : ∃ c, T / 4294967296 = c := ⟨_, rfl⟩
  obtain ⟨d, hd⟩ : ∃ d, T % 4294967296 = d := ⟨_, rfl⟩
  rw [ha] at wa hYab ha1
  rw [hb] at wb hYab hb1
  rw [hc] at wc hTce hc1
  rw [hd] at we hTce he1
  have HAB := Lib.hid hYab
  obtain ⟨Q1, hQ1⟩ : ∃ Q, (U * 4294967296 + c) / Y = Q := ⟨_, rfl⟩
  obtain ⟨R1, hR1⟩ : ∃ R, (U * 4294967296 + c) % Y = R := ⟨_, rfl⟩
  obtain ⟨Q0, hQ0⟩ : ∃ Q, (R1 * 4294967296 + d) / Y = Q := ⟨_, rfl⟩
  obtain ⟨R0, hR0⟩ : ∃ R, (R1 * 4294967296 + d) % Y = R := ⟨_, rfl⟩
  have hRY : R1 < Y := by rw [← hR1]; exact Nat.mod_lt _ (by omega)
  have hR0Y : R0 < Y := by rw [← hR0]; exact Nat.mod_lt _ (by omega)
  have hQ1B : Q1 < 4294967296 := by rw [← hQ1]; exact guess_lt hUY hc1
  have hQ0B : Q0 < 4294967296 := by rw [← hQ0]; exact guess_lt hRY he1
  have hN : X * 2 ^ s = (U * 4294967296 + c) * 4294967296 + d := by
    generalize X * 2 ^ s = Z at hw2 ⊢
    omega
  have htd := two_digits_of (y := Y) (q := Q1) (r := R1) (by omega) (by rw [← hQ1, ← hR1]; exact Nat.div_add_mod _ _) hN
  rw [hQ0, hR0] at htd
  have HFQ : Hid (Q1 * 4294967296 + Q0 = X / y) := Lib.hid (by rw [htd.1, SH.out.1])
  have HFR : Hid (R0 / 2 ^ s = X % y) := Lib.hid (by rw [htd.2, SH.out.2])
  have HE1 : Hid (Q1 * Y + R1 = U * 4294967296 + c) := Lib.hid (by rw [← hQ1, ← hR1]; exact Nat.div_add_mod' _ _)
  have HE0 : Hid (Q0 * Y + R0 = R1 * 4294967296 + d) := Lib.hid (by rw [← hQ0, ← hR0]; exact Nat.div_add_mod' _ _)
  have HQ1 := Lib.hid hQ1
  have HQ0 := Lib.hid hQ0
  have hGF := guess_first (u := U) hYab (by omega) hc1
  have hGF0 := guess_first (u := R1) hYab (by omega) he1
  have hq8 : U / a < 8589934592 := by rw [Nat.div_lt_iff_lt_mul (by omega)]; omega
  have hq80 : R1 / a < 8589934592 := by rw [Nat.div_lt_iff_lt_mul (by omega)]; omega
  have hr8 : U % a < a := Nat.mod_lt _ (by omega)
  have hr80 : R1 % a < a := Nat.mod_lt _ (by omega)
  have wq : IntKind.u64.wrap ((U : Int) / (a : Int)) = ((U / a : Nat) : Int) := wrap_nat (Int.natCast_ediv _ _).symm (by omega)
  have wq0 : IntKind.u64.wrap ((R1 : Int) / (a : Int)) = ((R1 / a : Nat) : Int) := wrap_nat (Int.natCast_ediv _ _).symm (by omega)
  obtain ⟨q, hq⟩ : ∃ q, U / a = q := ⟨_, rfl⟩
  obtain ⟨r, hr⟩ : ∃ r, U % a = r := ⟨_, rfl⟩
  obtain ⟨q0, hq0⟩ : ∃ q, R1 / a = q := ⟨_, rfl⟩
  obtain ⟨r0, hr0⟩ : ∃ r, R1 % a = r := ⟨_, rfl⟩
  rw [hq] at hGF hq8 wq
  rw [hr] at hGF hr8
  rw [hq0] at hGF0 hq80 wq0
  rw [hr0] at hGF0 hr80
  have HGF := Lib.hid hGF
  have HGF0 := Lib.hid hGF0
  obtain ⟨P, hP⟩ : ∃ P, q * a = P := ⟨_, rfl⟩
  obtain ⟨P0, hP0⟩ : ∃ P, q0 * a = P := ⟨_, rfl⟩
  have hPU : P + r = U := by rw [← hP]; exact hGF.1
  have hPU0 : P0 + r0 = R1 := by rw [← hP0]; exact hGF0.1
  have wP : IntKind.u64.wrap ((q : Int) * (a : Int)) = (P : Int) := wrap_nat (by rw [← hP, Int.natCast_mul]) (by omega)
  have wP0 : IntKind.u64.wrap ((q0 : Int) * (a : Int)) = (P0 : Int) := wrap_nat (by rw [← hP0, Int.natCast_mul]) (by omega)
  have EPU : Hid ((U : Int) - (P : Int) = (r : Int)) := Lib.hid (by omega)
  have EPU0 : Hid ((R1 : Int) - (P0 : Int) = (r0 : Int)) := Lib.hid (by omega)
  have hPle : (P : Int) ≤ (U : Int) := by omega
  have hPle0 : (P0 : Int) ≤ (R1 : Int) := by omega
  obtain ⟨A1, hA1⟩ : ∃ A, A = U * 4294967296 % 18446744073709551616 := ⟨_, rfl⟩
  obtain ⟨A2, hA2⟩ : ∃ A, A = Q1 * Y % 18446744073709551616 := ⟨_, rfl⟩
  obtain ⟨A3, hA3⟩ : ∃ A, A = R1 * 4294967296 % 18446744073709551616 := ⟨_, rfl⟩
  obtain ⟨A4, hA4⟩ : ∃ A, A = Q0 * Y % 18446744073709551616 := ⟨_, rfl⟩
  have wA1 : IntKind.u64.wrap ((U : Int) * 4294967296) = (A1 : Int) := by rw [hA1]; exact wrap_mod _ _ (by omega)
  have wA2 : IntKind.u64.wrap ((Q1 : Int) * (Y : Int)) = (A2 : Int) := by rw [hA2]; exact wrap_mod _ _ (by rw [Int.natCast_mul])
  have wA3 : IntKind.u64.wrap ((R1 : Int) * 4294967296) = (A3 : Int) := by rw [hA3]; exact wrap_mod _ _ (by omega)
  have wA4 : IntKind.u64.wrap ((Q0 : Int) * (Y : Int)) = (A4 : Int) := by rw [hA4]; exact wrap_mod _ _ (by rw [Int.natCast_mul])
  have wR1 := left_word hA1 hA2 HE1.out (by omega)
  have wR0 := left_word hA3 hA4 HE0.out (by omega)
  have bA1 : A1 + c < 18446744073709551616 := by omega
  have bA3 : A3 + d < 18446744073709551616 := by omega
  have HUY := Lib.hid hUY
  have HRY := Lib.hid hRY
  have HBD := Lib.hid (And.intro ha1 (And.intro hb1 (And.intro hc1 he1)))
  clear hs hY hH hG hT hor hw2 hGp hHY hXY hU ha hb hc hd hX SH hYab hTce hQ1 hR1 hQ0 hR0 htd hGF hGF0 hq hr hq0 hr0 hP hP0 hPU hPU0 hA1 hA2 hA3 hA4 p2 e64
  go_enter Try.func107, Try.ntmps107
  go_wp2_with fail
  refine HLZ.out.mono ?_
  rintro e w' ⟨rfl, hw⟩
  obtain rfl : w = w' := hw.symm
  rw [HS.out]
  go_upto_block 0 with fail
  go_cut [15, 16] from 67 to 85 (fun sq sr wx => (∃ z : Value, sr = z) ∧ sq = .int .u64 (Q1 : Int) ∧ w = wx)
  case first =>
    go_wp2_with fail
    go_loopw [15, 16] (fun sq sr wr => ∃ x t : Nat, sq = .int .u64 x ∧ sr = .int .u64 t ∧ x * a + t = U ∧ Q1 ≤ x ∧ t < 4294967296 ∧ x < 8589934592 ∧ w = wr) (fun sq _ _ => (intOf sq).toNat)
    case atStart => exact ⟨q, r, rfl, by rw [EPU.out], HGF.out.1, by rw [← HQ1.out]; exact HGF.out.2, by omega, hq8, rfl⟩
    case round =>
      obtain ⟨x, t, rfl, rfl, hqr, hle, ht, hx8, rfl⟩ := hrel
      have HQR := Lib.hid hqr
      have HLE : Hid ((U * 4294967296 + c) / Y ≤ x) := Lib.hid (by rw [HQ1.out]; exact hle)
      clear hqr hle
      by_cases c1 : (4294967296 : Int) ≤ (x : Int)
      · obtain ⟨p, hp, hpa, hpl⟩ := guess_less HAB.out HUY.out HBD.out.2.2.1 HQR.out HLE.out (.inl (by omega))
        have HP := Lib.hid hp
        have HPA := Lib.hid hpa
        have HPL := Lib.hid hpl
        clear hp hpa hpl
        by_cases c3 : (4294967296 : Int) ≤ (t : Int) + (a : Int)
        · have HF : Hid (p = Q1) := Lib.hid (by rw [← HQ1.out]; exact guess_out HAB.out HBD.out.2.1 HUY.out HPA.out HPL.out (by omega))
          go_wp2_with fail
          go_meet
          exact ⟨⟨_, rfl⟩, congrArg (Value.int .u64) (by have := HF.out; have := HP.out; omega), rfl⟩
        · go_wp2_with fail
          go_roundw
          case rel => exact ⟨p, t + a, congrArg (Value.int .u64) (by have := HP.out; omega), by go_num, HPA.out, by rw [← HQ1.out]; exact HPL.out, by omega, by have := HP.out; omega, by trivial⟩
          case measure => simp [intOf]; omega
      · have hD : x * b < 18446744073709551616 := by
          have := Nat.mul_le_mul (show x ≤ 4294967295 by omega) (show b ≤ 4294967295 by omega)
          omega
        obtain ⟨D, hDe⟩ : ∃ D, x * b = D := ⟨_, rfl⟩
        have wD : IntKind.u64.wrap ((x : Int) * (b : Int)) = (D : Int) := wrap_nat (by rw [← hDe, Int.natCast_mul]) (by omega)
        have HD := Lib.hid hDe
        rw [hDe] at hD
        clear hDe
        have d1 : decide ((4294967296 : Int) ≤ (x : Int)) = false := decide_eq_false c1
        by_cases c2 : (4294967296 : Int) * (t : Int) + (c : Int) < (D : Int)
        · obtain ⟨p, hp, hpa, hpl⟩ := guess_less HAB.out HUY.out HBD.out.2.2.1 HQR.out HLE.out (.inr (by rw [HD.out]; omega))
          have HP := Lib.hid hp
          have HPA := Lib.hid hpa
          have HPL := Lib.hid hpl
          have hx1 : (1 : Int) ≤ (x : Int) := by omega
          clear hp hpa hpl
          by_cases c3 : (4294967296 : Int) ≤ (t : Int) + (a : Int)
          · have HF : Hid (p = Q1) := Lib.hid (by rw [← HQ1.out]; exact guess_out HAB.out HBD.out.2.1 HUY.out HPA.out HPL.out (by omega))
            go_wp2_with fail
            go_meet
            exact ⟨⟨_, rfl⟩, congrArg (Value.int .u64) (by have := HF.out; have := HP.out; omega), rfl⟩
          · go_wp2_with fail
            go_roundw
            case rel => exact ⟨p, t + a, congrArg (Value.int .u64) (by have := HP.out; omega), by go_num, HPA.out, by rw [← HQ1.out]; exact HPL.out, by omega, by have := HP.out; omega, by trivial⟩
            case measure => simp [intOf]; omega
        · have HF : Hid (x = Q1) := Lib.hid (by rw [← HQ1.out]; exact guess_is HAB.out HUY.out HQR.out HLE.out (by rw [HD.out]; omega))
          have d2 : decide ((4294967296 : Int) * (t : Int) + (c : Int) < (D : Int)) = false := decide_eq_false c2
          go_wp2_with fail
          go_meet
          exact ⟨⟨_, rfl⟩, congrArg (Value.int .u64) (by have := HF.out; omega), rfl⟩
  case rest =>
    obtain ⟨⟨z, rfl⟩, rfl, rfl⟩ := hcut
    go_upto_block 2 with fail
    go_cut [18, 16] from 102 to 120 (fun sq sr wx => (∃ z : Value, sr = z) ∧ sq = .int .u64 (Q0 : Int) ∧ w = wx)
    case first =>
      go_wp2_with fail
      go_loopw [18, 16] (fun sq sr wr => ∃ x t : Nat, sq = .int .u64 x ∧ sr = .int .u64 t ∧ x * a + t = R1 ∧ Q0 ≤ x ∧ t < 4294967296 ∧ x < 8589934592 ∧ w = wr) (fun sq _ _ => (intOf sq).toNat)
      case atStart => exact ⟨q0, r0, rfl, by rw [EPU0.out], HGF0.out.1, by rw [← HQ0.out]; exact HGF0.out.2, by omega, hq80, rfl⟩
      case round =>
        obtain ⟨x, t, rfl, rfl, hqr, hle, ht, hx8, rfl⟩ := hrel
        have HQR := Lib.hid hqr
        have HLE : Hid ((R1 * 4294967296 + d) / Y ≤ x) := Lib.hid (by rw [HQ0.out]; exact hle)
        clear hqr hle
        by_cases c1 : (4294967296 : Int) ≤ (x : Int)
        · obtain ⟨p, hp, hpa, hpl⟩ := guess_less HAB.out HRY.out HBD.out.2.2.2 HQR.out HLE.out (.inl (by omega))
          have HP := Lib.hid hp
          have HPA := Lib.hid hpa
          have HPL := Lib.hid hpl
          clear hp hpa hpl
          by_cases c3 : (4294967296 : Int) ≤ (t : Int) + (a : Int)
          · have HF : Hid (p = Q0) := Lib.hid (by rw [← HQ0.out]; exact guess_out HAB.out HBD.out.2.1 HRY.out HPA.out HPL.out (by omega))
            go_wp2_with fail
            go_meet
            exact ⟨⟨_, rfl⟩, congrArg (Value.int .u64) (by have := HF.out; have := HP.out; omega), rfl⟩
          · go_wp2_with fail
            go_roundw
            case rel => exact ⟨p, t + a, congrArg (Value.int .u64) (by have := HP.out; omega), by go_num, HPA.out, by rw [← HQ0.out]; exact HPL.out, by omega, by have := HP.out; omega, by trivial⟩
            case measure => simp [intOf]; omega
        · have hD : x * b < 18446744073709551616 := by
            have := Nat.mul_le_mul (show x ≤ 4294967295 by omega) (show b ≤ 4294967295 by omega)
            omega
          obtain ⟨D, hDe⟩ : ∃ D, x * b = D := ⟨_, rfl⟩
          have wD : IntKind.u64.wrap ((x : Int) * (b : Int)) = (D : Int) := wrap_nat (by rw [← hDe, Int.natCast_mul]) (by omega)
          have HD := Lib.hid hDe
          rw [hDe] at hD
          clear hDe
          have d1 : decide ((4294967296 : Int) ≤ (x : Int)) = false := decide_eq_false c1
          by_cases c2 : (4294967296 : Int) * (t : Int) + (d : Int) < (D : Int)
          · obtain ⟨p, hp, hpa, hpl⟩ := guess_less HAB.out HRY.out HBD.out.2.2.2 HQR.out HLE.out (.inr (by rw [HD.out]; omega))
            have HP := Lib.hid hp
            have HPA := Lib.hid hpa
            have HPL := Lib.hid hpl
            have hx1 : (1 : Int) ≤ (x : Int) := by omega
            clear hp hpa hpl
            by_cases c3 : (4294967296 : Int) ≤ (t : Int) + (a : Int)
            · have HF : Hid (p = Q0) := Lib.hid (by rw [← HQ0.out]; exact guess_out HAB.out HBD.out.2.1 HRY.out HPA.out HPL.out (by omega))
              go_wp2_with fail
              go_meet
              exact ⟨⟨_, rfl⟩, congrArg (Value.int .u64) (by have := HF.out; have := HP.out; omega), rfl⟩
            · go_wp2_with fail
              go_roundw
              case rel => exact ⟨p, t + a, congrArg (Value.int .u64) (by have := HP.out; omega), by go_num, HPA.out, by rw [← HQ0.out]; exact HPL.out, by omega, by have := HP.out; omega, by trivial⟩
              case measure => simp [intOf]; omega
          · have HF : Hid (x = Q0) := Lib.hid (by rw [← HQ0.out]; exact guess_is HAB.out HRY.out HQR.out HLE.out (by rw [HD.out]; omega))
            have d2 : decide ((4294967296 : Int) * (t : Int) + (d : Int) < (D : Int)) = false := decide_eq_false c2
            go_wp2_with fail
            go_meet
            exact ⟨⟨_, rfl⟩, congrArg (Value.int .u64) (by have := HF.out; omega), rfl⟩
    case rest =>
      obtain ⟨⟨z, rfl⟩, rfl, rfl⟩ := hcut
      go_wp2_with fail
      go_ret2
      exact ⟨ret2 (by have := HFQ.out; omega) (by rw [← HFR.out, Int.natCast_ediv, Int.natCast_pow]; rfl), rfl⟩
end Go.Proofs.Ytbpfmjekpjfceaa
