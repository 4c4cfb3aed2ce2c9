/- The law on cuts. -/
import Derived.Test.YtcfddbhkcbflbaaRkLawRanks
namespace Go.Proofs.Ytcfddbhkcbflbaa
open Go.RowKit

set_option maxRecDepth 100000 in
set_option maxHeartbeats 1000000 in
theorem law_cuts_arg (n : Nat) (k : Int) (w : World) (h : k < 1 ∨ 1000 < k) :
    Calls Try.prog 8 #[.int .u64 (n : Int), .int .i64 k] w fun e w' => e = .returned (.bool true) ∧ Fr S0 w w' := by
  have hw := start w
  have H1 := Lib.hid (fun W => cut_arg n k W h)
  by_cases h0 : k < 1
  · clear h
    go_enter Try.func8, Try.ntmps8
    go_wp2_with fail
    refine hw _ ?_
    intro w1 f1
    clear hw
    go_wp2_with fail
    refine (H1.out _).mono ?_
    rintro e w2 ⟨rfl, f2⟩
    go_wp2
    go_ret
    exact ⟨rfl, f1.trans0 f2⟩
  · have h1 : k > 1000 := by omega
    clear h
    go_enter Try.func8, Try.ntmps8
    go_wp2_with fail
    refine hw _ ?_
    intro w1 f1
    clear hw
    go_wp2_with fail
    refine (H1.out _).mono ?_
    rintro e w2 ⟨rfl, f2⟩
    go_wp2
    go_ret
    exact ⟨rfl, f1.trans0 f2⟩

set_option maxRecDepth 100000 in
set_option maxHeartbeats 1000000 in
theorem law_cuts_none (k : Int) (w : World) (h1 : 1 ≤ k) (h2 : k ≤ 1000) :
    Calls Try.prog 8 #[.int .u64 0, .int .i64 k] w fun e w' => e = .returned (.bool true) ∧ Fr S0 w w' := by
  have hw := start w
  have H1 := Lib.hid (fun W => cut_none k W h1 h2)
  have d1 : decide (k < 1) = false := decide_eq_false (by omega)
  have d2 : decide (1000 < k) = false := decide_eq_false (by omega)
  clear h1 h2
  go_enter Try.func8, Try.ntmps8
  go_wp2_with fail
  refine hw _ ?_
  intro w1 f1
  clear hw
  go_wp2_with fail
  refine (H1.out _).mono ?_
  rintro e w2 ⟨rfl, f2⟩
  go_wp2
  go_ret
  exact ⟨rfl, f1.trans0 f2⟩

/-- the rank behind which a cut goes on -/
def wasN (i k n : Nat) : Nat := if i = 0 then 0 else rnk i k n
theorem wasN_le {i k n : Nat} (hi : i < k) (n0 : 0 < n) : wasN i k n ≤ n := by
  unfold wasN
  split
  · omega
  · exact (rnk_all (by omega) n0).2
theorem wasN_rise {i k n : Nat} (hk : 0 < k) : wasN i k n ≤ rnk (i + 1) k n := by
  unfold wasN
  split
  · omega
  · exact cut_rise hk
theorem wasN_near {i k n : Nat} (hk : 0 < k) (hn : k ≤ n) : n / k ≤ rnk (i + 1) k n - wasN i k n ∧ rnk (i + 1) k n - wasN i k n ≤ n / k + 1 := by
  obtain ⟨-, h1, h2⟩ := cut_near (i := i) hk hn
  unfold wasN
  split
  · rename_i h
    subst h
    exact h2 rfl
  · exact h1 (by omega)
theorem wasN_next (i k n : Nat) : wasN (i + 1) k n = rnk (i + 1) k n := if_neg (by omega)

set_option maxRecDepth 100000 in
set_option maxHeartbeats 4000000 in
theorem law_cuts_yes (n m k : Nat) (w : World) (hn : n < 18446744073709551616) (n0 : 0 < n) (hm : m < 1000) (hk : m + 1 = k) :
    Calls Try.prog 8 #[.int .u64 (n : Int), .int .i64 (k : Int)] w fun e w' => e = .returned (.bool true) ∧ Fr S0 w w' := by
  have hw := start w
  have H1 := Lib.hid (fun W => cut_yes n m k W hn n0 hm hk)
  have H2 := Lib.hid (fun i W (h : i < k) => rrank_yes i k n W hn (by omega) n0 (by omega) (by omega))
  have HN0 := Lib.hid n0
  have hn0 : ((n : Int) == 0) = false := by rw [beq_eq_false_iff_ne]; omega
  have d1 : decide ((k : Int) < 1) = false := decide_eq_false (by omega)
  have d2 : decide (1000 < (k : Int)) = false := decide_eq_false (by omega)
  have s1 : (k : Int) - 1 = (m : Int) := by omega
  have HK := Lib.hid hk
  have k0 : 0 < k := by omega
  have k9 : k ≤ 1000 := by omega
  clear n0 hk
  go_enter Try.func8, Try.ntmps8
  go_wp2_with fail
  refine hw _ ?_
  intro w1 f1
  clear hw
  go_wp2_with fail
  refine (H1.out _).mono ?_
  rintro e w2 ⟨v, rfl, p, c, l, rfl, sl, ht, f2⟩
  have F2 := Lib.hid (f1.trans0 f2)
  have SL := Lib.hid sl
  have HT := Lib.hid ht
  clear f1 f2 sl ht H1
  go_wp2_with fail
  clear d1 d2 s1 hn0
  go_loopw [7, 8, 9, 10] (fun x y _ _ wr => ∃ i W : Nat, x = .int .u64 (W : Int) ∧ y = .int .i64 (i : Int) ∧ i ≤ m ∧ Hid (wasN i k n = W) ∧ Hid (Fr S0 w2 wr)) (fun _ y _ _ _ => m - (intOf y).toNat)
  case atStart => exact ⟨0, 0, rfl, rfl, by omega, Lib.hid rfl, Lib.hid (Fr.refl _ _)⟩
  case round =>
    obtain ⟨i, W, rfl, rfl, hi, HW, HF⟩ := hrel
    by_cases hlt : (i : Int) < (m : Int)
    · have HR : Hid (∀ WW, Calls Try.prog 11 #[.int .u64 ((i : Int) + 1), .int .u64 (k : Int), .int .u64 (n : Int)] WW fun e w' => e = .returned (.tuple #[.int .u64 (rnk (i + 1) k n : Nat), .int .i64 0]) ∧ Fr S0 WW w') :=
        Lib.hid fun WW => H2.out (i + 1) WW (by have := HK.out; omega)
      have hx := (rnk_all (a := i + 1) (d := k) (n := n) (by have := HK.out; omega) HN0.out).2
      have hr := wasN_rise (i := i) (n := n) k0
      have hnear := wasN_near (i := i) (k := k) (n := n) k0
      have HNX := Lib.hid (wasN_next i k n)
      have hcell := fun w3 (f : Fr S0 w2 w3) => Ranks.at (SL.out.fr0 f) HT.out i (by omega)
      rw [HW.out] at hr hnear
      obtain ⟨X, hX⟩ : ∃ X, rnk (i + 1) k n = X := ⟨_, rfl⟩
      rw [hX] at HR hx hr hnear HNX
      simp only [hX] at hcell
      have HCL := Lib.hid hcell
      clear hX hcell HW
      go_wp2_with fail
      refine (HR.out _).mono ?_
      rintro e w3 ⟨rfl, f3⟩
      have F3 := Lib.hid (HF.out.trans0 f3)
      obtain ⟨b, o, rfl, hc⟩ := HCL.out w3 F3.out
      clear f3 HF HR HCL
      have x1 : decide (X < W) = false := decide_eq_false (by omega)
      have x2 : IntKind.u64.wrap ((X : Int) - (W : Int)) = ((X - W : Nat) : Int) := wrap_nat (by omega) (by omega)
      have hq : (n : Int) / (k : Int) = ((n / k : Nat) : Int) := by omega
      have kne : (k : Int) ≠ 0 := by omega
      have hqn : n / k < 18446744073709551616 := Nat.lt_of_le_of_lt (Nat.div_le_self _ _) hn
      have hqn2 : n / k + 1 < 18446744073709551616 := by
        have := Nat.div_le_div_left (a := n) (show 2 ≤ k by have := HK.out; omega) (by decide)
        omega
      obtain ⟨Q, hQ⟩ : ∃ Q, n / k = Q := ⟨_, rfl⟩
      obtain ⟨D, hD⟩ : ∃ D, X - W = D := ⟨_, rfl⟩
      rw [hQ] at hnear hq hqn hqn2
      rw [hD] at hnear x2
      have dlt : D < 18446744073709551616 := by omega
      by_cases hkn : k ≤ n
      · have y1 : decide (D < Q) = false := decide_eq_false (by have := hnear hkn; omega)
        have y2 : decide ((Q : Int) + 1 < (D : Int)) = false := decide_eq_false (by have := hnear hkn; omega)
        clear hnear hQ hD hr
        go_wp2_with fail
        go_quiet (fail)
        go_wp2_with fail
        go_roundw
        case rel => exact ⟨i + 1, X, by go_num, by go_num, by omega, HNX, Lib.hid (F3.out.trans0 (Fr.drewN _ _ _))⟩
        case measure => simp [intOf]; omega
      · have y1 : decide (k ≤ n) = false := decide_eq_false hkn
        clear hnear hQ hD hr
        go_wp2_with fail
        go_quiet (fail)
        go_wp2_with fail
        go_roundw
        case rel => exact ⟨i + 1, X, by go_num, by go_num, by omega, HNX, Lib.hid (F3.out.trans0 (Fr.drewN _ _ _))⟩
        case measure => simp [intOf]; omega
    · obtain rfl : i = m := by omega
      have hle := wasN_le (i := i) (k := k) (n := n) (by have := HK.out; omega) HN0.out
      rw [HW.out] at hle
      have HE := Lib.hid (F2.out.trans0 HF.out)
      clear HW HF
      go_wp2
      go_ret
      exact ⟨rfl, HE.out⟩
theorem law_cuts (n : Nat) (k : Int) (w : World) (hn : n < 18446744073709551616) :
    Calls Try.prog 8 #[.int .u64 (n : Int), .int .i64 k] w fun e w' => e = .returned (.bool true) ∧ Fr S0 w w' := by
  by_cases h : k < 1 ∨ 1000 < k
  · exact law_cuts_arg n k w h
  · by_cases h0 : n = 0
    · subst h0
      exact law_cuts_none k w (by omega) (by omega)
    · obtain ⟨m, rfl⟩ : ∃ m : Nat, k = ((m + 1 : Nat) : Int) := ⟨k.toNat - 1, by omega⟩
      exact law_cuts_yes n m (m + 1) w hn (by omega) (by omega) rfl
end Go.Proofs.Ytcfddbhkcbflbaa
