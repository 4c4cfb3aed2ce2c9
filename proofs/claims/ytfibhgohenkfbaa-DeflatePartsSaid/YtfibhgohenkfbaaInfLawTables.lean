/- The law on the tables. -/
import Derived.Test.YtfibhgohenkfbaaInfRead
namespace Go.Proofs.Ytfibhgohenkfbaa
open Go.RowKit

theorem base_next (s : Nat) (h : 257 ≤ s) (h2 : s < 284) : baseN (s + 1) = baseN s + 2 ^ baseC s := by
  have key : ∀ n : Fin 27, baseN (257 + n.val + 1) = baseN (257 + n.val) + 2 ^ baseC (257 + n.val) := by decide
  have := key ⟨s - 257, by omega⟩
  simpa [show 257 + (s - 257) = s by omega] using this
theorem far_next (s : Nat) (h2 : s < 29) : farN (s + 1) = farN s + 2 ^ farC s := by
  have key : ∀ n : Fin 29, farN (n.val + 1) = farN n.val + 2 ^ farC n.val := by decide
  exact key ⟨s, h2⟩
theorem base_c (s : Nat) (h : 257 ≤ s) (h2 : s < 285) : baseC s = if 265 ≤ s then (s - 261) / 4 else 0 := by
  have key : ∀ n : Fin 28, baseC (257 + n.val) = if 265 ≤ 257 + n.val then (257 + n.val - 261) / 4 else 0 := by decide
  have := key ⟨s - 257, by omega⟩
  simpa [show 257 + (s - 257) = s by omega] using this
theorem far_c (s : Nat) (h2 : s < 30) : farC s = if 4 ≤ s then (s - 2) / 2 else 0 := by
  have key : ∀ n : Fin 30, farC n.val = if 4 ≤ n.val then (n.val - 2) / 2 else 0 := by decide
  exact key ⟨s, h2⟩
set_option maxRecDepth 100000 in
set_option maxHeartbeats 1000000 in
theorem rbase_any (n : Nat) (w : World) (h : 257 ≤ n) (h2 : n ≤ 285) :
    Calls Try.prog 40 #[.int .i64 (n : Nat)] w fun e w' => e = .returned (.tuple #[.int .i64 (baseN n : Nat), .int .i64 (baseC n : Nat)]) ∧ w = w' := by
  have q2 : ¬ (n : Int) < 257 := by omega
  have q3 : ¬ (n : Int) > 285 := by omega
  by_cases h8 : n = 285
  · subst h8
    go_enter Try.func40, Try.ntmps40
    go_wp2_with fail
    go_ret2
    exact ⟨rfl, rfl⟩
  · have q4 : ((n : Int) == 285) = false := by rw [beq_eq_false_iff_ne]; omega
    have q5 : ¬ (n : Int) = 285 := by omega
    have hn : n < 285 := by omega
    clear h8 h2
    go_enter Try.func40, Try.ntmps40
    go_wp2_with fail
    go_loopw [4, 5, 6] (fun a s _ wr => ∃ j : Nat, 257 ≤ j ∧ j ≤ n ∧ s = .int .i64 j ∧ a = .int .i64 (baseN j : Nat) ∧ w = wr) (fun _ s _ _ => n - (intOf s).toNat)
    case atStart => exact ⟨257, by omega, by omega, rfl, rfl, rfl⟩
    case round =>
      obtain ⟨j, hj1, hj2, rfl, rfl, rfl⟩ := hrel
      have hbl := baseN_le j hj1 (by omega)
      have hc := base_c j hj1 (by omega)
      have HNX := Lib.hid (fun q => base_next j hj1 q)
      have hX : 2 ^ baseC j ≤ 32 := Nat.le_trans (Nat.pow_le_pow_right (n := 2) (by decide) hbl.2) (by decide)
      by_cases e : j = n
      · subst e
        obtain ⟨C, hC⟩ : ∃ C, baseC j = C := ⟨_, rfl⟩
        have HCC := Lib.hid hC
        rw [hC] at hc
        by_cases h5 : 265 ≤ j
        · have h5' : (j : Int) ≥ 265 := by omega
          rw [if_pos h5] at hc
          have i1 : ((j : Int) - 261) / 4 = (C : Int) := by omega
          clear hc hX hC
          go_wp2_with fail
          go_ret2
          exact ⟨by rw [HCC.out, ← i1]; rfl, rfl⟩
        · have h5' : ¬ (j : Int) ≥ 265 := by omega
          rw [if_neg h5] at hc
          subst hc
          clear hC hX
          go_wp2_with fail
          go_ret2
          exact ⟨by rw [HCC.out]; rfl, rfl⟩
      · have hne : ((j : Int) == (n : Int)) = false := by rw [beq_eq_false_iff_ne]; omega
        have hne2 : ¬ (j : Int) = (n : Int) := by omega
        have HN := Lib.hid (HNX.out (by omega))
        obtain ⟨C, hC⟩ : ∃ C, baseC j = C := ⟨_, rfl⟩
        rw [hC] at hc hX HN
        obtain ⟨X, hXX⟩ : ∃ X, 2 ^ C = X := ⟨_, rfl⟩
        rw [hXX] at hX HN
        have i2 : (2 : Int) ^ C = (X : Int) := by rw [← hXX]; simp
        by_cases h5 : 265 ≤ j
        · have h5' : (j : Int) ≥ 265 := by omega
          rw [if_pos h5] at hc
          have i1 : ((j : Int) - 261) / 4 = (C : Int) := by omega
          clear hc hC hXX
          go_wp2_with fail
          go_roundw
          case rel => exact ⟨j + 1, by omega, by omega, by go_num, by rw [HN.out]; go_num, by trivial⟩
          case measure => simp [intOf]; omega
        · have h5' : ¬ (j : Int) ≥ 265 := by omega
          rw [if_neg h5] at hc
          subst hc
          have hX1 : X = 1 := hXX.symm
          subst hX1
          go_wp2_with fail
          go_roundw
          case rel => exact ⟨j + 1, by omega, by omega, by go_num, by rw [HN.out]; go_num, by trivial⟩
          case measure => simp [intOf]; omega
set_option maxRecDepth 100000 in
set_option maxHeartbeats 1000000 in
theorem rfar_any (n : Nat) (w : World) (h2 : n ≤ 29) :
    Calls Try.prog 41 #[.int .i64 (n : Nat)] w fun e w' => e = .returned (.tuple #[.int .i64 (farN n : Nat), .int .i64 (farC n : Nat)]) ∧ w = w' := by
  have q2 : ¬ (n : Int) < 0 := by omega
  have q3 : ¬ (n : Int) > 29 := by omega
  go_enter Try.func41, Try.ntmps41
  go_wp2_with fail
  go_loopw [4, 5, 6] (fun a s _ wr => ∃ j : Nat, j ≤ n ∧ s = .int .i64 j ∧ a = .int .i64 (farN j : Nat) ∧ w = wr) (fun _ s _ _ => n - (intOf s).toNat)
  case atStart => exact ⟨0, by omega, rfl, rfl, rfl⟩
  case round =>
    obtain ⟨j, hj2, rfl, rfl, rfl⟩ := hrel
    have hbl := farN_le j (by omega)
    have hc := far_c j (by omega)
    have HNX := Lib.hid (fun q => far_next j q)
    have hX : 2 ^ farC j ≤ 8192 := Nat.le_trans (Nat.pow_le_pow_right (n := 2) (by decide) hbl.2) (by decide)
    by_cases e : j = n
    · subst e
      obtain ⟨C, hC⟩ : ∃ C, farC j = C := ⟨_, rfl⟩
      have HCC := Lib.hid hC
      rw [hC] at hc
      by_cases h5 : 4 ≤ j
      · have h5' : (j : Int) ≥ 4 := by omega
        rw [if_pos h5] at hc
        have i1 : ((j : Int) - 2) / 2 = (C : Int) := by omega
        clear hc hX hC
        go_wp2_with fail
        go_ret2
        exact ⟨by rw [HCC.out, ← i1]; rfl, rfl⟩
      · have h5' : ¬ (j : Int) ≥ 4 := by omega
        rw [if_neg h5] at hc
        subst hc
        clear hC hX
        go_wp2_with fail
        go_ret2
        exact ⟨by rw [HCC.out]; rfl, rfl⟩
    · have hne : ((j : Int) == (n : Int)) = false := by rw [beq_eq_false_iff_ne]; omega
      have hne2 : ¬ (j : Int) = (n : Int) := by omega
      have HN := Lib.hid (HNX.out (by omega))
      obtain ⟨C, hC⟩ : ∃ C, farC j = C := ⟨_, rfl⟩
      rw [hC] at hc hX HN
      obtain ⟨X, hXX⟩ : ∃ X, 2 ^ C = X := ⟨_, rfl⟩
      rw [hXX] at hX HN
      have i2 : (2 : Int) ^ C = (X : Int) := by rw [← hXX]; simp
      by_cases h5 : 4 ≤ j
      · have h5' : (j : Int) ≥ 4 := by omega
        rw [if_pos h5] at hc
        have i1 : ((j : Int) - 2) / 2 = (C : Int) := by omega
        clear hc hC hXX
        go_wp2_with fail
        go_roundw
        case rel => exact ⟨j + 1, by omega, by go_num, by rw [HN.out]; go_num, by trivial⟩
        case measure => simp [intOf]; omega
      · have h5' : ¬ (j : Int) ≥ 4 := by omega
        rw [if_neg h5] at hc
        subst hc
        have hX1 : X = 1 := hXX.symm
        subst hX1
        go_wp2_with fail
        go_roundw
        case rel => exact ⟨j + 1, by omega, by go_num, by rw [HN.out]; go_num, by trivial⟩
        case measure => simp [intOf]; omega
theorem rbase_no (s : Int) (w : World) (h : ¬ (257 ≤ s ∧ s ≤ 285)) :
    Calls Try.prog 40 #[.int .i64 s] w fun e w' => e = .returned (.tuple #[.int .i64 0, .int .i64 0]) ∧ w = w' := by
  by_cases h1 : s < 257
  · clear h
    go_enter Try.func40, Try.ntmps40
    go_wp2_with fail
    go_ret2
    exact ⟨rfl, rfl⟩
  · have h2 : s > 285 := by omega
    clear h
    go_enter Try.func40, Try.ntmps40
    go_wp2_with fail
    go_ret2
    exact ⟨rfl, rfl⟩
theorem rfar_no (s : Int) (w : World) (h : ¬ (0 ≤ s ∧ s ≤ 29)) :
    Calls Try.prog 41 #[.int .i64 s] w fun e w' => e = .returned (.tuple #[.int .i64 0, .int .i64 0]) ∧ w = w' := by
  by_cases h1 : s < 0
  · clear h
    go_enter Try.func41, Try.ntmps41
    go_wp2_with fail
    go_ret2
    exact ⟨rfl, rfl⟩
  · have h2 : s > 29 := by omega
    clear h
    go_enter Try.func41, Try.ntmps41
    go_wp2_with fail
    go_ret2
    exact ⟨rfl, rfl⟩
/-- what the tables say of any number -/
def baseI (s : Int) : Nat × Nat := if 257 ≤ s ∧ s ≤ 285 then (baseN s.toNat, baseC s.toNat) else (0, 0)
def farI (s : Int) : Nat × Nat := if 0 ≤ s ∧ s ≤ 29 then (farN s.toNat, farC s.toNat) else (0, 0)
theorem base_all (s : Int) (w : World) : Calls Try.prog 20 #[.int .i64 s] w fun e w' => e = .returned (.tuple #[.int .i64 ((baseI s).1 : Nat), .int .i64 ((baseI s).2 : Nat)]) ∧ w = w' := by
  unfold baseI
  by_cases h : 257 ≤ s ∧ s ≤ 285
  · rw [if_pos h]
    obtain ⟨n, rfl⟩ := Int.eq_ofNat_of_zero_le (show 0 ≤ s by omega)
    exact base_any n w (by omega) (by omega)
  · rw [if_neg h]; exact base_no s w h
theorem rbase_all (s : Int) (w : World) : Calls Try.prog 40 #[.int .i64 s] w fun e w' => e = .returned (.tuple #[.int .i64 ((baseI s).1 : Nat), .int .i64 ((baseI s).2 : Nat)]) ∧ w = w' := by
  unfold baseI
  by_cases h : 257 ≤ s ∧ s ≤ 285
  · rw [if_pos h]
    obtain ⟨n, rfl⟩ := Int.eq_ofNat_of_zero_le (show 0 ≤ s by omega)
    exact rbase_any n w (by omega) (by omega)
  · rw [if_neg h]; exact rbase_no s w h
theorem far_all (s : Int) (w : World) : Calls Try.prog 21 #[.int .i64 s] w fun e w' => e = .returned (.tuple #[.int .i64 ((farI s).1 : Nat), .int .i64 ((farI s).2 : Nat)]) ∧ w = w' := by
  unfold farI
  by_cases h : 0 ≤ s ∧ s ≤ 29
  · rw [if_pos h]
    obtain ⟨n, rfl⟩ := Int.eq_ofNat_of_zero_le h.1
    exact far_any n w (by omega)
  · rw [if_neg h]; exact far_no s w h
theorem rfar_all (s : Int) (w : World) : Calls Try.prog 41 #[.int .i64 s] w fun e w' => e = .returned (.tuple #[.int .i64 ((farI s).1 : Nat), .int .i64 ((farI s).2 : Nat)]) ∧ w = w' := by
  unfold farI
  by_cases h : 0 ≤ s ∧ s ≤ 29
  · rw [if_pos h]
    obtain ⟨n, rfl⟩ := Int.eq_ofNat_of_zero_le h.1
    exact rfar_any n w (by omega)
  · rw [if_neg h]; exact rfar_no s w h
theorem baseI_le (s : Int) : (baseI s).1 ≤ 258 ∧ (baseI s).2 ≤ 5 := by
  unfold baseI
  by_cases h : 257 ≤ s ∧ s ≤ 285
  · rw [if_pos h]; exact baseN_le s.toNat (by omega) (by omega)
  · rw [if_neg h]; decide
theorem farI_le (s : Int) : (farI s).1 ≤ 24577 ∧ (farI s).2 ≤ 13 := by
  unfold farI
  by_cases h : 0 ≤ s ∧ s ≤ 29
  · rw [if_pos h]; exact farN_le s.toNat (by omega)
  · rw [if_neg h]; decide
theorem baseI_next (s : Int) (h : 257 ≤ s) (h2 : s < 284) : (baseI (s + 1)).1 = (baseI s).1 + 2 ^ (baseI s).2 := by
  unfold baseI
  rw [if_pos (by omega), if_pos (by omega), show (s + 1).toNat = s.toNat + 1 by omega]
  exact base_next s.toNat (by omega) (by omega)
theorem farI_next (s : Int) (h : 0 ≤ s) (h2 : s < 29) : (farI (s + 1)).1 = (farI s).1 + 2 ^ (farI s).2 := by
  unfold farI
  rw [if_pos (by omega), if_pos (by omega), show (s + 1).toNat = s.toNat + 1 by omega]
  exact far_next s.toNat (by omega)
end Go.Proofs.Ytfibhgohenkfbaa
