/- The law on symbols. -/
import Derived.Test.YtfibhgohenkfbaaDefAlive
import Derived.Test.YtfibhgohenkfbaaDefSym2
namespace Go.Proofs.Ytfibhgohenkfbaa
open Go.RowKit

set_option maxRecDepth 100000 in
set_option maxHeartbeats 4000000 in
theorem symbols_all (n d e : Int) (a b c A1 f g A2 : Nat) (w : World)
    (hL : ∀ w, Calls Try.prog 16 #[.int .i64 n] w fun r w' => r = .returned (.tuple #[.int .i64 a, .int .i64 b, .int .i64 c]) ∧ Fr S0 w w')
    (hRL : ∀ w, Calls Try.prog 17 #[.int .i64 n] w fun r w' => r = .returned (.tuple #[.int .i64 a, .int .i64 b, .int .i64 c]) ∧ w = w')
    (hS : ∀ w, Calls Try.prog 18 #[.int .i64 d] w fun r w' => r = .returned (.tuple #[.int .i64 e, .int .i64 f, .int .i64 g]) ∧ Fr S0 w w')
    (hRS : ∀ w, Calls Try.prog 19 #[.int .i64 d] w fun r w' => r = .returned (.tuple #[.int .i64 e, .int .i64 f, .int .i64 g]) ∧ w = w')
    (hB : ∀ w, Calls Try.prog 20 #[.int .i64 a] w fun r w' => r = .returned (.tuple #[.int .i64 A1, .int .i64 b]) ∧ w = w')
    (hF : ∀ w, Calls Try.prog 21 #[.int .i64 e] w fun r w' => r = .returned (.tuple #[.int .i64 A2, .int .i64 f]) ∧ w = w')
    (hb : b ≤ 13) (hf : f ≤ 13) (hA1 : A1 ≤ 100000) (hc : c ≤ 100000) (hA2 : A2 ≤ 100000) (hg : g ≤ 100000)
    (h1 : 3 ≤ n ∧ n ≤ 258 → (A1 : Int) + c = n ∧ c < 2 ^ b) (h2 : 1 ≤ d ∧ d ≤ 32768 → (A2 : Int) + g = d ∧ g < 2 ^ f) :
    Calls Try.prog 6 #[.int .i64 n, .int .i64 d] w fun r w' => r = .returned (.bool true) ∧ Fr S0 w w' := by
  have HAL := Lib.hid (alive8_any w)
  have HL := Lib.hid hL
  have HRL := Lib.hid hRL
  have HS := Lib.hid hS
  have HRS := Lib.hid hRS
  have HB := Lib.hid hB
  have HF := Lib.hid hF
  have H1 := Lib.hid h1
  have H2 := Lib.hid h2
  clear hL hRL hS hRS hB hF h1 h2
  go_enter Try.func6, Try.ntmps6
  go_wp2_with fail
  refine HAL.out.mono ?_
  rintro _ w1 ⟨rfl, f1⟩
  have F1 := Lib.hid f1
  clear f1 HAL
  go_wp2_with fail
  refine (HL.out w1).mono ?_
  rintro _ w2 ⟨rfl, f2⟩
  have F2 := Lib.hid (F1.out.trans0 f2)
  clear f2 HL F1
  go_wp2_with fail
  refine (HRL.out w2).mono ?_
  rintro _ w' ⟨rfl, rfl⟩
  clear HRL
  go_wp2_with fail
  refine (HS.out w2).mono ?_
  rintro _ w3 ⟨rfl, f3⟩
  have F3 := Lib.hid (F2.out.trans0 f3)
  clear f3 HS F2
  go_wp2_with fail
  refine (HRS.out w3).mono ?_
  rintro _ w' ⟨rfl, rfl⟩
  clear HRS
  go_wp2_with fail
  refine (HB.out w3).mono ?_
  rintro _ w' ⟨rfl, rfl⟩
  clear HB
  obtain ⟨X1, hX1⟩ : ∃ X, 2 ^ b = X := ⟨_, rfl⟩
  obtain ⟨X2, hX2⟩ : ∃ X, 2 ^ f = X := ⟨_, rfl⟩
  have i1 : (2 : Int) ^ b = (X1 : Int) := by rw [← hX1]; simp
  have i2 : (2 : Int) ^ f = (X2 : Int) := by rw [← hX2]; simp
  have x1 : X1 ≤ 8192 := by rw [← hX1]; exact Nat.le_trans (Nat.pow_le_pow_right (n := 2) (by decide) hb) (by decide)
  have x2 : X2 ≤ 8192 := by rw [← hX2]; exact Nat.le_trans (Nat.pow_le_pow_right (n := 2) (by decide) hf) (by decide)
  rw [hX1] at H1
  rw [hX2] at H2
  clear hX1 hX2
  by_cases n1 : n < 3
  · have n1' : ¬ n ≥ 3 := by omega
    go_wp2_with fail
    refine (HF.out w3).mono ?_
    rintro _ w' ⟨rfl, rfl⟩
    clear HF
    by_cases d1 : d < 1
    · go_wp2_with fail
      go_ret
      exact ⟨rfl, F3.out⟩
    · by_cases d2 : d > 32768
      · go_wp2_with fail
        go_ret
        exact ⟨rfl, F3.out⟩
      · obtain ⟨y1, y2⟩ := H2.out ⟨by omega, by omega⟩
        have z1 : ((A2 : Int) + (g : Int) == d) = true := by rw [beq_iff_eq]; exact y1
        have z2 : (g : Int) < (X2 : Int) := by omega
        clear y1
        go_wp2_with fail
        go_ret
        exact ⟨rfl, F3.out⟩
  · have n1' : n ≥ 3 := by omega
    by_cases n2 : n > 258
    · have n2' : ¬ n ≤ 258 := by omega
      go_wp2_with fail
      refine (HF.out w3).mono ?_
      rintro _ w' ⟨rfl, rfl⟩
      clear HF
      by_cases d1 : d < 1
      · go_wp2_with fail
        go_ret
        exact ⟨rfl, F3.out⟩
      · by_cases d2 : d > 32768
        · go_wp2_with fail
          go_ret
          exact ⟨rfl, F3.out⟩
        · obtain ⟨y1, y2⟩ := H2.out ⟨by omega, by omega⟩
          have z1 : ((A2 : Int) + (g : Int) == d) = true := by rw [beq_iff_eq]; exact y1
          have z2 : (g : Int) < (X2 : Int) := by omega
          clear y1
          go_wp2_with fail
          go_ret
          exact ⟨rfl, F3.out⟩
    · have n2' : n ≤ 258 := by omega
      obtain ⟨y1, y2⟩ := H1.out ⟨by omega, by omega⟩
      have z1 : ((A1 : Int) + (c : Int) != n) = false := by rw [bne_eq_false_iff_eq]; exact y1
      have z2 : ¬ (c : Int) ≥ (X1 : Int) := by omega
      clear y1
      go_wp2_with fail
      refine (HF.out w3).mono ?_
      rintro _ w' ⟨rfl, rfl⟩
      clear HF
      by_cases d1 : d < 1
      · go_wp2_with fail
        go_ret
        exact ⟨rfl, F3.out⟩
      · by_cases d2 : d > 32768
        · go_wp2_with fail
          go_ret
          exact ⟨rfl, F3.out⟩
        · obtain ⟨y1, y2⟩ := H2.out ⟨by omega, by omega⟩
          have z1 : ((A2 : Int) + (g : Int) == d) = true := by rw [beq_iff_eq]; exact y1
          have z2 : (g : Int) < (X2 : Int) := by omega
          clear y1
          go_wp2_with fail
          go_ret
          exact ⟨rfl, F3.out⟩

theorem law_symbols (n d : Int) (w : World) :
    Calls Try.prog 6 #[.int .i64 n, .int .i64 d] w fun r w' => r = .returned (.bool true) ∧ Fr S0 w w' := by
  by_cases hn : 3 ≤ n ∧ n ≤ 258
  · obtain ⟨N, rfl⟩ : ∃ N : Nat, n = N := ⟨n.toNat, by omega⟩
    have l1 := lenS_is (n := N) (by omega) (by omega)
    have l2 := lenS_le N
    have l3 := baseN_le (lenS N) l2.1 l2.2
    by_cases hd : 1 ≤ d ∧ d ≤ 32768
    · obtain ⟨D, rfl⟩ : ∃ D : Nat, d = D := ⟨d.toNat, by omega⟩
      have k1 := spnS_is (n := D) (by omega) (by omega)
      have k2 := spnS_le D
      have k3 := farN_le (spnS D) k2
      exact symbols_all N D (spnS D) (lenS N) (baseC (lenS N)) (N - baseN (lenS N)) (baseN (lenS N)) (farC (spnS D)) (D - farN (spnS D)) (farN (spnS D)) w (fun w => length_yes N w (by omega) (by omega)) (fun w => rlength_yes N w (by omega) (by omega)) (fun w => span_yes D w (by omega) (by omega)) (fun w => rspan_yes D w (by omega) (by omega))
        (fun w => base_any (lenS N) w l2.1 l2.2) (fun w => far_any (spnS D) w k2) (by omega) (by omega) (by omega) (by omega) (by omega) (by omega) (fun _ => ⟨by omega, by omega⟩) (fun _ => ⟨by omega, by omega⟩)
    · exact symbols_all N d (-1) (lenS N) (baseC (lenS N)) (N - baseN (lenS N)) (baseN (lenS N)) 0 0 0 w (fun w => length_yes N w (by omega) (by omega)) (fun w => rlength_yes N w (by omega) (by omega)) (fun w => (span_no d w hd).mono fun _ _ h => ⟨h.1, h.2 ▸ Fr.refl _ _⟩) (fun w => rspan_no d w hd)
        (fun w => base_any (lenS N) w l2.1 l2.2) (fun w => far_no (-1) w (by decide)) (by omega) (by omega) (by omega) (by omega) (by omega) (by omega) (fun _ => ⟨by omega, by omega⟩) (fun h => absurd h hd)
  · by_cases hd : 1 ≤ d ∧ d ≤ 32768
    · obtain ⟨D, rfl⟩ : ∃ D : Nat, d = D := ⟨d.toNat, by omega⟩
      have k1 := spnS_is (n := D) (by omega) (by omega)
      have k2 := spnS_le D
      have k3 := farN_le (spnS D) k2
      exact symbols_all n D (spnS D) 0 0 0 0 (farC (spnS D)) (D - farN (spnS D)) (farN (spnS D)) w (fun w => (length_no n w hn).mono fun _ _ h => ⟨h.1, h.2 ▸ Fr.refl _ _⟩) (fun w => rlength_no n w hn) (fun w => span_yes D w (by omega) (by omega)) (fun w => rspan_yes D w (by omega) (by omega))
        (fun w => base_no 0 w (by decide)) (fun w => far_any (spnS D) w k2) (by omega) (by omega) (by omega) (by omega) (by omega) (by omega) (fun h => absurd h hn) (fun _ => ⟨by omega, by omega⟩)
    · exact symbols_all n d (-1) 0 0 0 0 0 0 0 w (fun w => (length_no n w hn).mono fun _ _ h => ⟨h.1, h.2 ▸ Fr.refl _ _⟩) (fun w => rlength_no n w hn) (fun w => (span_no d w hd).mono fun _ _ h => ⟨h.1, h.2 ▸ Fr.refl _ _⟩) (fun w => rspan_no d w hd)
        (fun w => base_no 0 w (by decide)) (fun w => far_no (-1) w (by decide)) (by omega) (by omega) (by omega) (by omega) (by omega) (by omega) (fun h => absurd h hn) (fun h => absurd h hd)
end Go.Proofs.Ytfibhgohenkfbaa
