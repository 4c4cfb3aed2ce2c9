/- The law on the bounds of ranks and spots. -/
import Derived.Test.YtcfddbhkcbflbaaRkLawRanks
namespace Go.Proofs.Ytcfddbhkcbflbaa
open Go.RowKit

theorem rkR_bad {a d n : Nat} (h : rkE a d n ≠ 0) : rkR a d n = 0 := by
  unfold rkE at h
  unfold rkR
  by_cases h1 : d = 0 ∨ d < a
  · rw [if_pos h1]
  · rw [if_neg h1] at h ⊢
    by_cases h2 : n = 0
    · rw [if_pos h2]
    · rw [if_neg h2] at h
      exact absurd rfl h
theorem rkE_ok {a d n : Nat} (h : rkE a d n = 0) : 0 < d ∧ a ≤ d ∧ 0 < n := by
  unfold rkE at h
  by_cases h1 : d = 0 ∨ d < a
  · rw [if_pos h1] at h
    omega
  · rw [if_neg h1] at h
    by_cases h2 : n = 0
    · rw [if_pos h2] at h
      omega
    · omega
theorem rkE_yes {a d n : Nat} (hd : 0 < d) (h : a ≤ d) (n0 : 0 < n) : rkE a d n = 0 ∧ rkR a d n = rnk a d n := by
  unfold rkE rkR
  rw [if_neg (by omega), if_neg (by omega), if_neg (by omega), if_neg (by omega)]
  exact ⟨rfl, rfl⟩
theorem spot_cap (a d n : Nat) (w : World) (h64 : d < 18446744073709551616) (hn : 4611686018427387904 < n) (hd : 0 < d) (h : a ≤ d) :
    Calls Try.prog 12 #[.int .u64 (a : Int), .int .u64 (d : Int), .int .u64 (n : Int)] w fun e w' => e = .returned (.tuple #[.int .u64 0, .int .i64 6]) ∧ Fr S0 w w' := by
  have h1 := spot_any a d n w h64
  unfold spR spE at h1
  rw [if_neg (by omega), if_neg (by omega), if_pos hn, if_neg (by omega), if_neg (by omega), if_pos hn] at h1
  exact h1

set_option maxRecDepth 100000 in
set_option maxHeartbeats 1000000 in
theorem law_bounds_no (a b c d n : Nat) (w : World) (hb : b < 18446744073709551616) (hd : d < 18446744073709551616) (hn : n < 18446744073709551616) (hno : rkE a b n ≠ 0 ∨ rkE c d n ≠ 0) :
    Calls Try.prog 4 #[.int .u64 (a : Int), .int .u64 (b : Int), .int .u64 (c : Int), .int .u64 (d : Int), .int .u64 (n : Int)] w fun e w' => e = .returned (.bool true) ∧ Fr S0 w w' := by
  have hw := start w
  have H1 := Lib.hid (fun W => rank_any a b n W hn hb)
  have H2 := Lib.hid (fun W => rank_any c d n W hn hd)
  have z1 := @rkR_bad a b n
  have z2 := @rkR_bad c d n
  obtain ⟨R, hR⟩ : ∃ R, rkR a b n = R := ⟨_, rfl⟩
  obtain ⟨E, hE⟩ : ∃ E, rkE a b n = E := ⟨_, rfl⟩
  obtain ⟨P, hP⟩ : ∃ P, rkR c d n = P := ⟨_, rfl⟩
  obtain ⟨F, hF⟩ : ∃ F, rkE c d n = F := ⟨_, rfl⟩
  rw [hR, hE] at H1
  rw [hP, hF] at H2
  rw [hE, hR] at z1
  rw [hF, hP] at z2
  rw [hE, hF] at hno
  clear hR hE hP hF hn hb hd
  by_cases e0 : E = 0
  · subst e0
    have f0 : F ≠ 0 := by omega
    have f1 : ((F : Int) != 0) = true := by rw [bne_iff_ne]; omega
    have f2 : ((F : Int) == 0) = false := by rw [beq_eq_false_iff_ne]; omega
    obtain rfl : P = 0 := z2 f0
    clear z1 z2 hno f0
    go_enter Try.func4, Try.ntmps4
    go_wp2_with fail
    refine hw _ ?_
    intro w1 f1
    clear hw
    go_wp2_with fail
    refine (H1.out _).mono ?_
    rintro e w2 ⟨rfl, f2⟩
    go_wp2_with fail
    refine (H2.out _).mono ?_
    rintro e w3 ⟨rfl, f3⟩
    go_wp2
    go_ret
    exact ⟨rfl, (f1.trans0 f2).trans0 f3⟩
  · have e1 : ((E : Int) != 0) = true := by rw [bne_iff_ne]; omega
    have e2 : ((E : Int) == 0) = false := by rw [beq_eq_false_iff_ne]; omega
    obtain rfl : R = 0 := z1 e0
    clear z1 hno e0
    by_cases f0 : F = 0
    · subst f0
      clear z2
      go_enter Try.func4, Try.ntmps4
      go_wp2_with fail
      refine hw _ ?_
      intro w1 f1
      clear hw
      go_wp2_with fail
      refine (H1.out _).mono ?_
      rintro e w2 ⟨rfl, f2⟩
      go_wp2_with fail
      refine (H2.out _).mono ?_
      rintro e w3 ⟨rfl, f3⟩
      go_wp2
      go_ret
      exact ⟨rfl, (f1.trans0 f2).trans0 f3⟩
    · have f1 : ((F : Int) != 0) = true := by rw [bne_iff_ne]; omega
      have f2 : ((F : Int) == 0) = false := by rw [beq_eq_false_iff_ne]; omega
      obtain rfl : P = 0 := z2 f0
      clear z2 f0
      go_enter Try.func4, Try.ntmps4
      go_wp2_with fail
      refine hw _ ?_
      intro w1 f1
      clear hw
      go_wp2_with fail
      refine (H1.out _).mono ?_
      rintro e w2 ⟨rfl, f2⟩
      go_wp2_with fail
      refine (H2.out _).mono ?_
      rintro e w3 ⟨rfl, f3⟩
      go_wp2
      go_ret
      exact ⟨rfl, (f1.trans0 f2).trans0 f3⟩

theorem cmpF_less {a b c d n : Nat} (b0 : 0 < b) (d0 : 0 < d) (h : cmpF a b c d = -1) : rnk a b n ≤ rnk c d n ∧ spt a b n ≤ spt c d n := by
  unfold cmpF cmpI at h
  rw [if_neg (by omega)] at h
  have : a * d ≤ c * b := by
    split at h
    · omega
    · split at h <;> omega
  exact ⟨rnk_mono d0 this, spt_mono b0 d0 this⟩
theorem cmpF_more {a b c d n : Nat} (b0 : 0 < b) (d0 : 0 < d) (h : cmpF a b c d = 1) : rnk c d n ≤ rnk a b n ∧ spt c d n ≤ spt a b n := by
  unfold cmpF cmpI at h
  rw [if_neg (by omega)] at h
  have : c * b ≤ a * d := by
    split at h
    · omega
    · split at h <;> omega
  exact ⟨rnk_mono b0 this, spt_mono d0 b0 this⟩
theorem cmpF_like {a b c d n : Nat} (b0 : 0 < b) (d0 : 0 < d) (h : cmpF a b c d = 0) : rnk a b n = rnk c d n ∧ spt a b n = spt c d n := by
  unfold cmpF cmpI at h
  rw [if_neg (by omega)] at h
  have : a * d = c * b := by
    split at h
    · assumption
    · split at h <;> omega
  exact ⟨Nat.le_antisymm (rnk_mono d0 (Nat.le_of_eq this)) (rnk_mono b0 (Nat.le_of_eq this.symm)), Nat.le_antisymm (spt_mono b0 d0 (Nat.le_of_eq this)) (spt_mono d0 b0 (Nat.le_of_eq this.symm))⟩

set_option maxRecDepth 100000 in
set_option maxHeartbeats 2000000 in
theorem law_bounds_less_cap (a b c d n : Nat) (w : World) (hb : b < 18446744073709551616) (hd : d < 18446744073709551616) (hn : n < 18446744073709551616)
    (b0 : 0 < b) (ab : a ≤ b) (d0 : 0 < d) (cd : c ≤ d) (n0 : 0 < n) (hx : cmpF a b c d = -1) (hcap : 4611686018427387904 < n) :
    Calls Try.prog 4 #[.int .u64 (a : Int), .int .u64 (b : Int), .int .u64 (c : Int), .int .u64 (d : Int), .int .u64 (n : Int)] w fun e w' => e = .returned (.bool true) ∧ Fr S0 w w' := by
  have hw := start w
  have H1 := Lib.hid (fun W => rank_yes a b n W hn hb n0 b0 ab)
  have H2 := Lib.hid (fun W => rank_yes c d n W hn hd n0 d0 cd)
  have H3 := Lib.hid (fun W => rank_yes 0 b n W hn hb n0 b0 (Nat.zero_le b))
  have H4 := Lib.hid (fun W => rank_yes b b n W hn hb n0 b0 (Nat.le_refl b))
  have H5 := Lib.hid (fun W => cmpf_any a b c d W (by omega) hb (by omega) hd)
  rw [rnk_zero] at H3
  rw [rnk_full b0 n0] at H4
  rw [hx] at H5
  have hr := rnk_all (a := a) ab n0
  have hm := cmpF_less (n := n) b0 d0 hx
  have H6 := Lib.hid (fun W => spot_cap a b n W hb hcap b0 ab)
  have H7 := Lib.hid (fun W => spot_cap c d n W hd hcap d0 cd)
  obtain ⟨R, hR⟩ : ∃ R, rnk a b n = R := ⟨_, rfl⟩
  obtain ⟨P, hP⟩ : ∃ P, rnk c d n = P := ⟨_, rfl⟩
  rw [hR] at H1 hr hm
  rw [hP] at H2 hm
  have r1 : decide ((R : Int) < 1) = false := decide_eq_false (by omega)
  have r2 : decide (n < R) = false := decide_eq_false (by omega)
  have m1 : decide (P < R) = false := decide_eq_false (by omega)
  clear hR hP hr hm hb hd hx b0 ab d0 cd
  go_enter Try.func4, Try.ntmps4
  go_wp2_with fail
  refine hw _ ?_
  intro w1 f1
  clear hw
  go_wp2_with fail
  refine (H1.out _).mono ?_
  rintro e w2 ⟨rfl, f2⟩
  go_wp2_with fail
  refine (H2.out _).mono ?_
  rintro e w3 ⟨rfl, f3⟩
  go_wp2_with fail
  refine (H3.out _).mono ?_
  rintro e w4 ⟨rfl, f4⟩
  go_wp2_with fail
  refine (H4.out _).mono ?_
  rintro e w5 ⟨rfl, f5⟩
  go_wp2_with fail
  refine (H5.out _).mono ?_
  rintro e w6 ⟨rfl, f6⟩
  go_wp2_with fail
  refine (H6.out _).mono ?_
  rintro e w7 ⟨rfl, f7⟩
  go_wp2_with fail
  refine (H7.out _).mono ?_
  rintro e w8 ⟨rfl, f8⟩
  go_wp2
  go_ret
  exact ⟨rfl, ((((((f1.trans0 f2).trans0 f3).trans0 f4).trans0 f5).trans0 f6).trans0 f7).trans0 f8⟩

set_option maxRecDepth 100000 in
set_option maxHeartbeats 2000000 in
theorem law_bounds_less (a b c d n : Nat) (w : World) (hb : b < 18446744073709551616) (hd : d < 18446744073709551616) (hn : n < 18446744073709551616)
    (b0 : 0 < b) (ab : a ≤ b) (d0 : 0 < d) (cd : c ≤ d) (n0 : 0 < n) (hx : cmpF a b c d = -1) (hcap : n ≤ 4611686018427387904) :
    Calls Try.prog 4 #[.int .u64 (a : Int), .int .u64 (b : Int), .int .u64 (c : Int), .int .u64 (d : Int), .int .u64 (n : Int)] w fun e w' => e = .returned (.bool true) ∧ Fr S0 w w' := by
  have hw := start w
  have H1 := Lib.hid (fun W => rank_yes a b n W hn hb n0 b0 ab)
  have H2 := Lib.hid (fun W => rank_yes c d n W hn hd n0 d0 cd)
  have H3 := Lib.hid (fun W => rank_yes 0 b n W hn hb n0 b0 (Nat.zero_le b))
  have H4 := Lib.hid (fun W => rank_yes b b n W hn hb n0 b0 (Nat.le_refl b))
  have H5 := Lib.hid (fun W => cmpf_any a b c d W (by omega) hb (by omega) hd)
  rw [rnk_zero] at H3
  rw [rnk_full b0 n0] at H4
  rw [hx] at H5
  have hr := rnk_all (a := a) ab n0
  have hm := cmpF_less (n := n) b0 d0 hx
  have H6 := Lib.hid (fun W => spot_yes a b n W hcap hb n0 b0 ab)
  have H7 := Lib.hid (fun W => spot_yes c d n W hcap hd n0 d0 cd)
  have hu := spt_all (n := n) ab
  obtain ⟨R, hR⟩ : ∃ R, rnk a b n = R := ⟨_, rfl⟩
  obtain ⟨P, hP⟩ : ∃ P, rnk c d n = P := ⟨_, rfl⟩
  rw [hR] at H1 hr hm
  rw [hP] at H2 hm
  obtain ⟨U, hU⟩ : ∃ U, spt a b n = U := ⟨_, rfl⟩
  obtain ⟨V, hV⟩ : ∃ V, spt c d n = V := ⟨_, rfl⟩
  rw [hU] at H6 hm hu
  rw [hV] at H7 hm
  obtain ⟨N, hN⟩ : ∃ N, 2 * n = N := ⟨_, rfl⟩
  have wN : IntKind.u64.wrap (2 * (n : Int)) = (N : Int) := wrap_nat (by omega) (by omega)
  have u1 : decide (U ≤ N) = true := decide_eq_true (by omega)
  clear hu hN hU hV
  have r1 : decide ((R : Int) < 1) = false := decide_eq_false (by omega)
  have r2 : decide (n < R) = false := decide_eq_false (by omega)
  have m1 : decide (P < R) = false := decide_eq_false (by omega)
  have m2 : decide (U ≤ V) = true := decide_eq_true (by omega)
  clear hR hP hr hm hb hd hx b0 ab d0 cd
  go_enter Try.func4, Try.ntmps4
  go_wp2_with fail
  refine hw _ ?_
  intro w1 f1
  clear hw
  go_wp2_with fail
  refine (H1.out _).mono ?_
  rintro e w2 ⟨rfl, f2⟩
  go_wp2_with fail
  refine (H2.out _).mono ?_
  rintro e w3 ⟨rfl, f3⟩
  go_wp2_with fail
  refine (H3.out _).mono ?_
  rintro e w4 ⟨rfl, f4⟩
  go_wp2_with fail
  refine (H4.out _).mono ?_
  rintro e w5 ⟨rfl, f5⟩
  go_wp2_with fail
  refine (H5.out _).mono ?_
  rintro e w6 ⟨rfl, f6⟩
  go_wp2_with fail
  refine (H6.out _).mono ?_
  rintro e w7 ⟨rfl, f7⟩
  go_wp2_with fail
  refine (H7.out _).mono ?_
  rintro e w8 ⟨rfl, f8⟩
  go_wp2
  go_ret
  exact ⟨rfl, ((((((f1.trans0 f2).trans0 f3).trans0 f4).trans0 f5).trans0 f6).trans0 f7).trans0 f8⟩

set_option maxRecDepth 100000 in
set_option maxHeartbeats 2000000 in
theorem law_bounds_like_cap (a b c d n : Nat) (w : World) (hb : b < 18446744073709551616) (hd : d < 18446744073709551616) (hn : n < 18446744073709551616)
    (b0 : 0 < b) (ab : a ≤ b) (d0 : 0 < d) (cd : c ≤ d) (n0 : 0 < n) (hx : cmpF a b c d = 0) (hcap : 4611686018427387904 < n) :
    Calls Try.prog 4 #[.int .u64 (a : Int), .int .u64 (b : Int), .int .u64 (c : Int), .int .u64 (d : Int), .int .u64 (n : Int)] w fun e w' => e = .returned (.bool true) ∧ Fr S0 w w' := by
  have hw := start w
  have H1 := Lib.hid (fun W => rank_yes a b n W hn hb n0 b0 ab)
  have H2 := Lib.hid (fun W => rank_yes c d n W hn hd n0 d0 cd)
  have H3 := Lib.hid (fun W => rank_yes 0 b n W hn hb n0 b0 (Nat.zero_le b))
  have H4 := Lib.hid (fun W => rank_yes b b n W hn hb n0 b0 (Nat.le_refl b))
  have H5 := Lib.hid (fun W => cmpf_any a b c d W (by omega) hb (by omega) hd)
  rw [rnk_zero] at H3
  rw [rnk_full b0 n0] at H4
  rw [hx] at H5
  have hr := rnk_all (a := a) ab n0
  have hm := cmpF_like (n := n) b0 d0 hx
  have H6 := Lib.hid (fun W => spot_cap a b n W hb hcap b0 ab)
  have H7 := Lib.hid (fun W => spot_cap c d n W hd hcap d0 cd)
  obtain ⟨R, hR⟩ : ∃ R, rnk a b n = R := ⟨_, rfl⟩
  obtain ⟨P, hP⟩ : ∃ P, rnk c d n = P := ⟨_, rfl⟩
  rw [hR] at H1 hr hm
  rw [hP] at H2 hm
  have r1 : decide ((R : Int) < 1) = false := decide_eq_false (by omega)
  have r2 : decide (n < R) = false := decide_eq_false (by omega)
  obtain rfl : R = P := hm.1
  clear hR hP hr hm hb hd hx b0 ab d0 cd
  go_enter Try.func4, Try.ntmps4
  go_wp2_with fail
  refine hw _ ?_
  intro w1 f1
  clear hw
  go_wp2_with fail
  refine (H1.out _).mono ?_
  rintro e w2 ⟨rfl, f2⟩
  go_wp2_with fail
  refine (H2.out _).mono ?_
  rintro e w3 ⟨rfl, f3⟩
  go_wp2_with fail
  refine (H3.out _).mono ?_
  rintro e w4 ⟨rfl, f4⟩
  go_wp2_with fail
  refine (H4.out _).mono ?_
  rintro e w5 ⟨rfl, f5⟩
  go_wp2_with fail
  refine (H5.out _).mono ?_
  rintro e w6 ⟨rfl, f6⟩
  go_wp2_with fail
  refine (H6.out _).mono ?_
  rintro e w7 ⟨rfl, f7⟩
  go_wp2_with fail
  refine (H7.out _).mono ?_
  rintro e w8 ⟨rfl, f8⟩
  go_wp2
  go_ret
  exact ⟨rfl, ((((((f1.trans0 f2).trans0 f3).trans0 f4).trans0 f5).trans0 f6).trans0 f7).trans0 f8⟩

set_option maxRecDepth 100000 in
set_option maxHeartbeats 2000000 in
theorem law_bounds_like (a b c d n : Nat) (w : World) (hb : b < 18446744073709551616) (hd : d < 18446744073709551616) (hn : n < 18446744073709551616)
    (b0 : 0 < b) (ab : a ≤ b) (d0 : 0 < d) (cd : c ≤ d) (n0 : 0 < n) (hx : cmpF a b c d = 0) (hcap : n ≤ 4611686018427387904) :
    Calls Try.prog 4 #[.int .u64 (a : Int), .int .u64 (b : Int), .int .u64 (c : Int), .int .u64 (d : Int), .int .u64 (n : Int)] w fun e w' => e = .returned (.bool true) ∧ Fr S0 w w' := by
  have hw := start w
  have H1 := Lib.hid (fun W => rank_yes a b n W hn hb n0 b0 ab)
  have H2 := Lib.hid (fun W => rank_yes c d n W hn hd n0 d0 cd)
  have H3 := Lib.hid (fun W => rank_yes 0 b n W hn hb n0 b0 (Nat.zero_le b))
  have H4 := Lib.hid (fun W => rank_yes b b n W hn hb n0 b0 (Nat.le_refl b))
  have H5 := Lib.hid (fun W => cmpf_any a b c d W (by omega) hb (by omega) hd)
  rw [rnk_zero] at H3
  rw [rnk_full b0 n0] at H4
  rw [hx] at H5
  have hr := rnk_all (a := a) ab n0
  have hm := cmpF_like (n := n) b0 d0 hx
  have H6 := Lib.hid (fun W => spot_yes a b n W hcap hb n0 b0 ab)
  have H7 := Lib.hid (fun W => spot_yes c d n W hcap hd n0 d0 cd)
  have hu := spt_all (n := n) ab
  obtain ⟨R, hR⟩ : ∃ R, rnk a b n = R := ⟨_, rfl⟩
  obtain ⟨P, hP⟩ : ∃ P, rnk c d n = P := ⟨_, rfl⟩
  rw [hR] at H1 hr hm
  rw [hP] at H2 hm
  obtain ⟨U, hU⟩ : ∃ U, spt a b n = U := ⟨_, rfl⟩
  obtain ⟨V, hV⟩ : ∃ V, spt c d n = V := ⟨_, rfl⟩
  rw [hU] at H6 hm hu
  rw [hV] at H7 hm
  obtain ⟨N, hN⟩ : ∃ N, 2 * n = N := ⟨_, rfl⟩
  have wN : IntKind.u64.wrap (2 * (n : Int)) = (N : Int) := wrap_nat (by omega) (by omega)
  have u1 : decide (U ≤ N) = true := decide_eq_true (by omega)
  clear hu hN hU hV
  have r1 : decide ((R : Int) < 1) = false := decide_eq_false (by omega)
  have r2 : decide (n < R) = false := decide_eq_false (by omega)
  obtain rfl : R = P := hm.1
  obtain rfl : U = V := hm.2
  clear hR hP hr hm hb hd hx b0 ab d0 cd
  go_enter Try.func4, Try.ntmps4
  go_wp2_with fail
  refine hw _ ?_
  intro w1 f1
  clear hw
  go_wp2_with fail
  refine (H1.out _).mono ?_
  rintro e w2 ⟨rfl, f2⟩
  go_wp2_with fail
  refine (H2.out _).mono ?_
  rintro e w3 ⟨rfl, f3⟩
  go_wp2_with fail
  refine (H3.out _).mono ?_
  rintro e w4 ⟨rfl, f4⟩
  go_wp2_with fail
  refine (H4.out _).mono ?_
  rintro e w5 ⟨rfl, f5⟩
  go_wp2_with fail
  refine (H5.out _).mono ?_
  rintro e w6 ⟨rfl, f6⟩
  go_wp2_with fail
  refine (H6.out _).mono ?_
  rintro e w7 ⟨rfl, f7⟩
  go_wp2_with fail
  refine (H7.out _).mono ?_
  rintro e w8 ⟨rfl, f8⟩
  go_wp2
  go_ret
  exact ⟨rfl, ((((((f1.trans0 f2).trans0 f3).trans0 f4).trans0 f5).trans0 f6).trans0 f7).trans0 f8⟩

set_option maxRecDepth 100000 in
set_option maxHeartbeats 2000000 in
theorem law_bounds_more_cap (a b c d n : Nat) (w : World) (hb : b < 18446744073709551616) (hd : d < 18446744073709551616) (hn : n < 18446744073709551616)
    (b0 : 0 < b) (ab : a ≤ b) (d0 : 0 < d) (cd : c ≤ d) (n0 : 0 < n) (hx : cmpF a b c d = 1) (hcap : 4611686018427387904 < n) :
    Calls Try.prog 4 #[.int .u64 (a : Int), .int .u64 (b : Int), .int .u64 (c : Int), .int .u64 (d : Int), .int .u64 (n : Int)] w fun e w' => e = .returned (.bool true) ∧ Fr S0 w w' := by
  have hw := start w
  have H1 := Lib.hid (fun W => rank_yes a b n W hn hb n0 b0 ab)
  have H2 := Lib.hid (fun W => rank_yes c d n W hn hd n0 d0 cd)
  have H3 := Lib.hid (fun W => rank_yes 0 b n W hn hb n0 b0 (Nat.zero_le b))
  have H4 := Lib.hid (fun W => rank_yes b b n W hn hb n0 b0 (Nat.le_refl b))
  have H5 := Lib.hid (fun W => cmpf_any a b c d W (by omega) hb (by omega) hd)
  rw [rnk_zero] at H3
  rw [rnk_full b0 n0] at H4
  rw [hx] at H5
  have hr := rnk_all (a := a) ab n0
  have hm := cmpF_more (n := n) b0 d0 hx
  have H6 := Lib.hid (fun W => spot_cap a b n W hb hcap b0 ab)
  have H7 := Lib.hid (fun W => spot_cap c d n W hd hcap d0 cd)
  obtain ⟨R, hR⟩ : ∃ R, rnk a b n = R := ⟨_, rfl⟩
  obtain ⟨P, hP⟩ : ∃ P, rnk c d n = P := ⟨_, rfl⟩
  rw [hR] at H1 hr hm
  rw [hP] at H2 hm
  have r1 : decide ((R : Int) < 1) = false := decide_eq_false (by omega)
  have r2 : decide (n < R) = false := decide_eq_false (by omega)
  have m1 : decide (R < P) = false := decide_eq_false (by omega)
  clear hR hP hr hm hb hd hx b0 ab d0 cd
  go_enter Try.func4, Try.ntmps4
  go_wp2_with fail
  refine hw _ ?_
  intro w1 f1
  clear hw
  go_wp2_with fail
  refine (H1.out _).mono ?_
  rintro e w2 ⟨rfl, f2⟩
  go_wp2_with fail
  refine (H2.out _).mono ?_
  rintro e w3 ⟨rfl, f3⟩
  go_wp2_with fail
  refine (H3.out _).mono ?_
  rintro e w4 ⟨rfl, f4⟩
  go_wp2_with fail
  refine (H4.out _).mono ?_
  rintro e w5 ⟨rfl, f5⟩
  go_wp2_with fail
  refine (H5.out _).mono ?_
  rintro e w6 ⟨rfl, f6⟩
  go_wp2_with fail
  refine (H6.out _).mono ?_
  rintro e w7 ⟨rfl, f7⟩
  go_wp2_with fail
  refine (H7.out _).mono ?_
  rintro e w8 ⟨rfl, f8⟩
  go_wp2
  go_ret
  exact ⟨rfl, ((((((f1.trans0 f2).trans0 f3).trans0 f4).trans0 f5).trans0 f6).trans0 f7).trans0 f8⟩

set_option maxRecDepth 100000 in
set_option maxHeartbeats 2000000 in
theorem law_bounds_more (a b c d n : Nat) (w : World) (hb : b < 18446744073709551616) (hd : d < 18446744073709551616) (hn : n < 18446744073709551616)
    (b0 : 0 < b) (ab : a ≤ b) (d0 : 0 < d) (cd : c ≤ d) (n0 : 0 < n) (hx : cmpF a b c d = 1) (hcap : n ≤ 4611686018427387904) :
    Calls Try.prog 4 #[.int .u64 (a : Int), .int .u64 (b : Int), .int .u64 (c : Int), .int .u64 (d : Int), .int .u64 (n : Int)] w fun e w' => e = .returned (.bool true) ∧ Fr S0 w w' := by
  have hw := start w
  have H1 := Lib.hid (fun W => rank_yes a b n W hn hb n0 b0 ab)
  have H2 := Lib.hid (fun W => rank_yes c d n W hn hd n0 d0 cd)
  have H3 := Lib.hid (fun W => rank_yes 0 b n W hn hb n0 b0 (Nat.zero_le b))
  have H4 := Lib.hid (fun W => rank_yes b b n W hn hb n0 b0 (Nat.le_refl b))
  have H5 := Lib.hid (fun W => cmpf_any a b c d W (by omega) hb (by omega) hd)
  rw [rnk_zero] at H3
  rw [rnk_full b0 n0] at H4
  rw [hx] at H5
  have hr := rnk_all (a := a) ab n0
  have hm := cmpF_more (n := n) b0 d0 hx
  have H6 := Lib.hid (fun W => spot_yes a b n W hcap hb n0 b0 ab)
  have H7 := Lib.hid (fun W => spot_yes c d n W hcap hd n0 d0 cd)
  have hu := spt_all (n := n) ab
  obtain ⟨R, hR⟩ : ∃ R, rnk a b n = R := ⟨_, rfl⟩
  obtain ⟨P, hP⟩ : ∃ P, rnk c d n = P := ⟨_, rfl⟩
  rw [hR] at H1 hr hm
  rw [hP] at H2 hm
  obtain ⟨U, hU⟩ : ∃ U, spt a b n = U := ⟨_, rfl⟩
  obtain ⟨V, hV⟩ : ∃ V, spt c d n = V := ⟨_, rfl⟩
  rw [hU] at H6 hm hu
  rw [hV] at H7 hm
  obtain ⟨N, hN⟩ : ∃ N, 2 * n = N := ⟨_, rfl⟩
  have wN : IntKind.u64.wrap (2 * (n : Int)) = (N : Int) := wrap_nat (by omega) (by omega)
  have u1 : decide (U ≤ N) = true := decide_eq_true (by omega)
  clear hu hN hU hV
  have r1 : decide ((R : Int) < 1) = false := decide_eq_false (by omega)
  have r2 : decide (n < R) = false := decide_eq_false (by omega)
  have m1 : decide (R < P) = false := decide_eq_false (by omega)
  have m2 : decide (V ≤ U) = true := decide_eq_true (by omega)
  clear hR hP hr hm hb hd hx b0 ab d0 cd
  go_enter Try.func4, Try.ntmps4
  go_wp2_with fail
  refine hw _ ?_
  intro w1 f1
  clear hw
  go_wp2_with fail
  refine (H1.out _).mono ?_
  rintro e w2 ⟨rfl, f2⟩
  go_wp2_with fail
  refine (H2.out _).mono ?_
  rintro e w3 ⟨rfl, f3⟩
  go_wp2_with fail
  refine (H3.out _).mono ?_
  rintro e w4 ⟨rfl, f4⟩
  go_wp2_with fail
  refine (H4.out _).mono ?_
  rintro e w5 ⟨rfl, f5⟩
  go_wp2_with fail
  refine (H5.out _).mono ?_
  rintro e w6 ⟨rfl, f6⟩
  go_wp2_with fail
  refine (H6.out _).mono ?_
  rintro e w7 ⟨rfl, f7⟩
  go_wp2_with fail
  refine (H7.out _).mono ?_
  rintro e w8 ⟨rfl, f8⟩
  go_wp2
  go_ret
  exact ⟨rfl, ((((((f1.trans0 f2).trans0 f3).trans0 f4).trans0 f5).trans0 f6).trans0 f7).trans0 f8⟩

theorem law_bounds (a b c d n : Nat) (w : World) (hb : b < 18446744073709551616) (hd : d < 18446744073709551616) (hn : n < 18446744073709551616) :
    Calls Try.prog 4 #[.int .u64 (a : Int), .int .u64 (b : Int), .int .u64 (c : Int), .int .u64 (d : Int), .int .u64 (n : Int)] w fun e w' => e = .returned (.bool true) ∧ Fr S0 w w' := by
  by_cases hno : rkE a b n ≠ 0 ∨ rkE c d n ≠ 0
  · exact law_bounds_no a b c d n w hb hd hn hno
  · obtain ⟨b0, ab, n0⟩ := rkE_ok (show rkE a b n = 0 by omega)
    obtain ⟨d0, cd, -⟩ := rkE_ok (show rkE c d n = 0 by omega)
    obtain ⟨l1, l2⟩ := cmpF_lim a b c d
    by_cases hcap : 4611686018427387904 < n
    · rcases (show cmpF a b c d = -1 ∨ cmpF a b c d = 0 ∨ cmpF a b c d = 1 by omega) with h | h | h
      · exact law_bounds_less_cap a b c d n w hb hd hn b0 ab d0 cd n0 h hcap
      · exact law_bounds_like_cap a b c d n w hb hd hn b0 ab d0 cd n0 h hcap
      · exact law_bounds_more_cap a b c d n w hb hd hn b0 ab d0 cd n0 h hcap
    · rcases (show cmpF a b c d = -1 ∨ cmpF a b c d = 0 ∨ cmpF a b c d = 1 by omega) with h | h | h
      · exact law_bounds_less a b c d n w hb hd hn b0 ab d0 cd n0 h (by omega)
      · exact law_bounds_like a b c d n w hb hd hn b0 ab d0 cd n0 h (by omega)
      · exact law_bounds_more a b c d n w hb hd hn b0 ab d0 cd n0 h (by omega)
end Go.Proofs.Ytcfddbhkcbflbaa
