/- The document's steps that double. -/
import Derived.Test.YthfcfmnaiopogaaGreatHrCorrect
import Derived.Test.YthfcfmnaiopogaaGreatWdAll
namespace Go.Proofs.YthfcfmnaiopogaaGreat
open Go.RowKit

def times (n b : Nat) : Nat := min ((n + 1) * b - 1) 9223372036854775807

set_option maxRecDepth 100000 in
set_option maxHeartbeats 400000 in
theorem htimes_any (n b : Nat) (w : World) (hn : n ≤ 9223372036854775807) (hb : 2 ≤ b) (hb2 : b ≤ 2147483648) :
    Calls Tryz.prog 46 #[.int .i64 (n : Nat), .int .i64 (b : Nat)] w fun e w' => e = .returned (.int .i64 (times n b : Nat)) ∧ Fr S0 w w' := by
  have hge : (n + 1) * 2 ≤ (n + 1) * b := Nat.mul_le_mul_left _ hb
  have hlt : (n + 1) * b ≤ 9223372036854775808 * 2147483648 := Nat.mul_le_mul (by omega) hb2
  unfold times
  obtain ⟨P, eP⟩ : ∃ P, (n + 1) * b = P := ⟨_, rfl⟩
  by_cases h0 : n = 9223372036854775807
  · rw [eP] at hge ⊢
    rw [show min (P - 1) 9223372036854775807 = n by omega]
    have hnn : ((n : Nat) : Int) = 9223372036854775807 := by omega
    rw [hnn]
    clear hge hlt eP h0 hnn
    go_enter Tryz.func46, Tryz.ntmps46
    go_wp2_with fail
    go_ret
    exact ⟨rfl, Fr.refl _ _⟩
  have HM := Lib.hid (rmul_any (n + 1) b w (by omega) (by omega))
  rw [eP] at HM hge hlt ⊢
  obtain ⟨n1, en1⟩ : ∃ n1, n + 1 = n1 := ⟨_, rfl⟩
  have e1 : (n : Int) + 1 = (n1 : Int) := by omega
  have hn1 : n1 ≤ 9223372036854775807 := by omega
  rw [en1] at HM
  have hlt1 : (n : Int) < 9223372036854775807 := by omega
  have hH : P / 65536 ^ 4 % 18446744073709551616 = P / 18446744073709551616 := by
    rw [show (65536 : Nat) ^ 4 = 18446744073709551616 by decide]; omega
  have hL : P / 65536 ^ 0 % 18446744073709551616 = P % 18446744073709551616 := by rw [Nat.pow_zero, Nat.div_one]
  obtain ⟨Hi, eH⟩ : ∃ Hi, P / 18446744073709551616 = Hi := ⟨_, rfl⟩
  obtain ⟨Lo, eL⟩ : ∃ Lo, P % 18446744073709551616 = Lo := ⟨_, rfl⟩
  obtain ⟨X, eX⟩ : ∃ X, min (P - 1) 9223372036854775807 = X := ⟨_, rfl⟩
  rw [eX]
  have HF := Lib.hid (show ((Hi = 0 ∧ Lo ≤ 9223372036854775807) → Lo = X + 1) ∧ ((0 < Hi ∨ 9223372036854775807 < Lo) → X = 9223372036854775807) ∧ Lo < 18446744073709551616 ∧ Hi < 18446744073709551616 from ⟨by omega, by omega, by omega, by omega⟩)
  have HN := Lib.hid (fun W v (h : NewDig w W v P) => show ∃ p c, v = .slice p 8 c ∧ Fr S0 w W ∧ (∀ f : Nat, f ≤ 4 → Calls Tryz.prog 88 #[.slice p 8 c, .int .i64 (f : Int)] W fun e w' => e = .returned (.int .u64 (P / 65536 ^ f % 18446744073709551616 : Nat)) ∧ W = w') from by
    obtain ⟨p, c, hv, hd, hf⟩ := h
    exact ⟨p, c, hv, hf, fun f hf4 => rnumber_any p c P f W hd hf4⟩)
  have hge2 : decide ((9223372036854775807 : Int) ≤ (n : Int)) = false := decide_eq_false (by omega)
  clear hge hlt eP h0 en1 eX hn
  go_enter Tryz.func46, Tryz.ntmps46
  go_wp2_with fail
  refine HM.out.mono ?_
  rintro e w1 ⟨v, rfl, hd⟩
  obtain ⟨p, c, rfl, hf, hnum⟩ := HN.out _ _ hd
  have F1 := Lib.hid hf
  have N4 := hnum 4 (by decide)
  have N0 := hnum 0 (by decide)
  rw [hH, eH] at N4
  rw [hL, eL] at N0
  have N4 := Lib.hid N4
  have N0 := Lib.hid N0
  clear hd hf hnum HM HN hH hL eH eL
  go_wp2_with fail
  refine N4.out.mono ?_
  rintro e w2 ⟨rfl, rfl⟩
  by_cases hh : 0 < Hi
  · have hX := HF.out.2.1 (.inl hh)
    subst hX
    go_wp2_with fail
    go_ret
    exact ⟨rfl, F1.out⟩
  · by_cases hl : 9223372036854775807 < Lo
    · have hX := HF.out.2.1 (.inr hl)
      subst hX
      have hl2 : (9223372036854775807 : Int) < (Lo : Int) := by omega
      clear hl
      go_wp2_with fail
      refine N0.out.mono ?_
      rintro e w2 ⟨rfl, rfl⟩
      go_wp2_with fail
      go_ret
      exact ⟨rfl, F1.out⟩
    · have hX := HF.out.1 ⟨by omega, by omega⟩
      have hl2 : decide ((9223372036854775807 : Int) < (Lo : Int)) = false := decide_eq_false (by omega)
      have hl3 : Lo ≤ 9223372036854775807 := by omega
      have e5 : (Lo : Int) - 1 = (X : Int) := by omega
      have hX2 : X ≤ 9223372036854775807 := by omega
      clear hl hX
      go_wp2_with fail
      refine N0.out.mono ?_
      rintro e w2 ⟨rfl, rfl⟩
      go_wp2_with fail
      refine N0.out.mono ?_
      rintro e w2 ⟨rfl, rfl⟩
      go_wp2_with fail
      go_ret
      exact ⟨rfl, F1.out⟩
end Go.Proofs.YthfcfmnaiopogaaGreat
