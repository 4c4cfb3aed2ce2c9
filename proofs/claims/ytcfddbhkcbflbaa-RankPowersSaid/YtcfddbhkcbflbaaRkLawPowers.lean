/- The law on powers of ten. -/
import Derived.Test.YtcfddbhkcbflbaaRkLawRanks
namespace Go.Proofs.Ytcfddbhkcbflbaa
open Go.RowKit

def pwR (d : Int) : Nat := if d < 0 ∨ 19 < d then 0 else 10 ^ d.toNat
def pwE (d : Int) : Nat := if d < 0 ∨ 19 < d then 1 else 0
theorem power_any (d : Int) (w : World) :
    Calls Try.prog 19 #[.int .i64 d] w fun e w' => e = .returned (.tuple #[.int .u64 (pwR d : Nat), .int .i64 (pwE d : Nat)]) ∧ Fr S0 w w' := by
  unfold pwR pwE
  by_cases h : d < 0 ∨ 19 < d
  · rw [if_pos h, if_pos h]
    exact power_no d w h
  · rw [if_neg h, if_neg h]
    obtain ⟨k, rfl⟩ : ∃ k : Nat, d = k := ⟨d.toNat, by omega⟩
    rw [Int.toNat_natCast]
    exact power_yes k w (by omega)
theorem rpower_any (d : Int) (w : World) :
    Calls Try.prog 20 #[.int .i64 d] w fun e w' => e = .returned (.tuple #[.int .u64 (pwR d : Nat), .int .i64 (pwE d : Nat)]) ∧ Fr S0 w w' := by
  unfold pwR pwE
  by_cases h : d < 0 ∨ 19 < d
  · rw [if_pos h, if_pos h]
    exact rpower_no d w h
  · rw [if_neg h, if_neg h]
    obtain ⟨k, rfl⟩ : ∃ k : Nat, d = k := ⟨d.toNat, by omega⟩
    rw [Int.toNat_natCast]
    exact rpower_yes k w (by omega)
theorem pwE_lt (d : Int) : pwE d < 2 := by
  unfold pwE
  split <;> decide

set_option maxRecDepth 100000 in
set_option maxHeartbeats 2000000 in
theorem law_powers (d : Int) (n : Nat) (w : World) (hn : n < 18446744073709551616) :
    Calls Try.prog 7 #[.int .i64 d, .int .u64 (n : Int)] w fun e w' => e = .returned (.bool true) ∧ Fr S0 w w' := by
  have hw := start w
  have H1 := Lib.hid (fun W => power_any d W)
  have H2 := Lib.hid (fun W => rpower_any d W)
  have H3 := Lib.hid (fun i W (h : i ≤ 19) => rpower_yes i W h)
  obtain ⟨c, c20, hc1, hc2⟩ := pows n hn
  have HI := Lib.hid (fun i => pow_iff (n := n) (c := c) (i := i) hc1 hc2)
  have H4 := Lib.hid (fun W => digits_any n c W hc1 hc2 c20 hn)
  have he := pwE_lt d
  obtain ⟨R, hR⟩ : ∃ R, pwR d = R := ⟨_, rfl⟩
  obtain ⟨E, hE⟩ : ∃ E, pwE d = E := ⟨_, rfl⟩
  rw [hR, hE] at H1 H2
  rw [hE] at he
  clear hR hE hc1 hc2
  go_enter Try.func7, Try.ntmps7
  go_wp2_with fail
  refine hw _ ?_
  intro w1 f1
  clear hw
  go_wp2_with fail
  refine (H1.out _).mono ?_
  rintro e w2 ⟨rfl, f2⟩
  go_wp2_with fail
  refine (H2.out _).mono ?_
  rintro e w3 ⟨rfl, f3⟩
  have F3 := Lib.hid ((f1.trans0 f2).trans0 f3)
  clear f1 f2 f3 H1 H2
  go_wp2_with fail
  go_loopw [9, 10, 11, 12] (fun x y _ _ wr => ∃ i m : Nat, x = .int .i64 (m : Int) ∧ y = .int .i64 (i : Int) ∧ i ≤ 20 ∧ m ≤ 20 ∧ Hid (m = min i c) ∧ Hid (Fr S0 w wr)) (fun _ y _ _ _ => 20 - (intOf y).toNat)
  case atStart => exact ⟨0, 0, rfl, rfl, by omega, by omega, Lib.hid (by omega), F3⟩
  case round =>
    obtain ⟨i, m, rfl, rfl, hi, hm, HM, HF⟩ := hrel
    by_cases hlt : (i : Int) < 20
    · have HP := Lib.hid (fun W => H3.out i W (by omega))
      have h10 := HI.out i
      obtain ⟨T, hT⟩ : ∃ T, 10 ^ i = T := ⟨_, rfl⟩
      rw [hT] at HP h10
      clear hT
      go_wp2_with fail
      refine (HP.out _).mono ?_
      rintro e w4 ⟨rfl, f4⟩
      have F4 := Lib.hid (HF.out.trans0 f4)
      clear f4 HF HP
      by_cases hTn : T ≤ n
      · have HM2 : Hid (m + 1 = min (i + 1) c) := Lib.hid (by have := HM.out; have := h10.1 hTn; omega)
        clear h10 HM
        go_wp2
        go_roundw
        case rel => exact ⟨i + 1, m + 1, by go_num, by go_num, by omega, by have := HM2.out; omega, HM2, F4⟩
        case measure => simp [intOf]; omega
      · have HM2 : Hid (m = min (i + 1) c) := Lib.hid (by have := HM.out; have : ¬ i < c := fun g => hTn (h10.2 g); omega)
        have d1 : decide (T ≤ n) = false := decide_eq_false hTn
        clear h10 HM hTn
        go_wp2
        go_roundw
        case rel => exact ⟨i + 1, m, by go_num, by go_num, by omega, by omega, HM2, F4⟩
        case measure => simp [intOf]; omega
    · obtain rfl : i = 20 := by omega
      obtain rfl : m = c := by have := HM.out; omega
      have em : max 1 (m : Int) = ((max 1 m : Nat) : Int) := by omega
      have em2 : max 1 m ≤ 20 := by omega
      obtain ⟨M, hM⟩ : ∃ M, max 1 m = M := ⟨_, rfl⟩
      rw [hM] at em H4 em2
      clear hM HM HI H3
      go_wp2_with fail
      refine (H4.out _).mono ?_
      rintro e w4 ⟨rfl, f4⟩
      go_wp2
      go_ret
      exact ⟨rfl, HF.out.trans0 f4⟩
end Go.Proofs.Ytcfddbhkcbflbaa
