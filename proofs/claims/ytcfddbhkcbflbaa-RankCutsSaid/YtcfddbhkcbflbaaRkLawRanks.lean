/- The laws on ranks and on comparisons. -/
import Derived.Test.YtcfddbhkcbflbaaRkAlive
namespace Go.Proofs.Ytcfddbhkcbflbaa
open Go.RowKit

theorem rkE_lt (a d n : Nat) : rkE a d n < 9 := by
  unfold rkE
  split
  · decide
  · split <;> decide
theorem spE_lt (a d n : Nat) : spE a d n < 9 := by
  unfold spE
  split
  · decide
  · split
    · decide
    · split <;> decide
theorem ckN_lt (a d : Nat) : ckN a d < 9 := by
  unfold ckN
  split <;> decide

set_option maxRecDepth 100000 in
set_option maxHeartbeats 1000000 in
theorem law_ranks (a d n : Nat) (w : World) (hn : n < 18446744073709551616) (h64 : d < 18446744073709551616) :
    Calls Try.prog 3 #[.int .u64 (a : Int), .int .u64 (d : Int), .int .u64 (n : Int)] w fun e w' => e = .returned (.bool true) ∧ Fr S0 w w' := by
  have hw := start w
  have H1 := Lib.hid (fun W => rank_any a d n W hn h64)
  have H2 := Lib.hid (fun W => rrank_any a d n W hn h64)
  have H3 := Lib.hid (fun W => spot_any a d n W h64)
  have H4 := Lib.hid (fun W => rspot_any a d n W h64)
  have H5 := Lib.hid (fun W => check_any a d W)
  have H6 := Lib.hid (fun W => rcheck_any a d W)
  have e1 := rkE_lt a d n
  have e2 := spE_lt a d n
  have e3 := ckN_lt a d
  obtain ⟨R, hR⟩ : ∃ R, rkR a d n = R := ⟨_, rfl⟩
  obtain ⟨E, hE⟩ : ∃ E, rkE a d n = E := ⟨_, rfl⟩
  obtain ⟨P, hP⟩ : ∃ P, spR a d n = P := ⟨_, rfl⟩
  obtain ⟨F, hF⟩ : ∃ F, spE a d n = F := ⟨_, rfl⟩
  obtain ⟨C, hC⟩ : ∃ C, ckN a d = C := ⟨_, rfl⟩
  rw [hR, hE] at H1 H2
  rw [hP, hF] at H3 H4
  rw [hC] at H5 H6 e3
  rw [hE] at e1
  rw [hF] at e2
  clear hR hE hP hF hC hn h64
  go_enter Try.func3, Try.ntmps3
  go_wp2_with fail
  refine hw _ ?_
  intro w1 f1
  clear hw
  go_wp2_with fail
  refine (H1.out _).mono ?_
  rintro e w2 ⟨rfl, f2⟩
  go_wp2_with fail
  refine (H2.out _).mono ?_
  rintro e w3 ⟨rfl, f3⟩
  go_wp2_with fail
  refine (H3.out _).mono ?_
  rintro e w4 ⟨rfl, f4⟩
  go_wp2_with fail
  refine (H4.out _).mono ?_
  rintro e w5 ⟨rfl, f5⟩
  go_wp2_with fail
  refine (H5.out _).mono ?_
  rintro e w6 ⟨rfl, f6⟩
  go_wp2_with fail
  refine (H6.out _).mono ?_
  rintro e w7 ⟨rfl, f7⟩
  go_wp2
  go_ret
  exact ⟨rfl, (((((f1.trans0 f2).trans0 f3).trans0 f4).trans0 f5).trans0 f6).trans0 f7⟩

theorem cmpI_turn (x y : Nat) : cmpI y x = - cmpI x y := by
  unfold cmpI
  by_cases h : x = y
  · subst h
    rw [if_pos rfl]
    rfl
  · rw [if_neg h, if_neg (Ne.symm h)]
    by_cases g : x < y
    · rw [if_pos g, if_neg (by omega)]
      rfl
    · rw [if_neg g, if_pos (by omega)]
theorem cmpF_turn (a b c d : Nat) : cmpF c d a b = - cmpF a b c d := by
  unfold cmpF
  by_cases h : b = 0 ∨ d = 0
  · rw [if_pos h, if_pos h.symm]
    rfl
  · rw [if_neg h, if_neg (fun g => h g.symm)]
    exact cmpI_turn _ _
theorem cmpF_same (a b : Nat) : cmpF a b a b = 0 := by
  unfold cmpF cmpI
  split
  · rfl
  · exact if_pos rfl
theorem cmpF_lim (a b c d : Nat) : -1 ≤ cmpF a b c d ∧ cmpF a b c d ≤ 1 := by
  unfold cmpF cmpI
  split
  · decide
  · split
    · decide
    · split <;> decide

set_option maxRecDepth 100000 in
set_option maxHeartbeats 1000000 in
theorem law_cmp (a b c d : Nat) (w : World) (ha : a < 18446744073709551616) (hb : b < 18446744073709551616) (hc : c < 18446744073709551616) (hd : d < 18446744073709551616) :
    Calls Try.prog 6 #[.int .u64 (a : Int), .int .u64 (b : Int), .int .u64 (c : Int), .int .u64 (d : Int)] w fun e w' => e = .returned (.bool true) ∧ Fr S0 w w' := by
  have hw := start w
  have H1 := Lib.hid (fun W => cmpf_any a b c d W ha hb hc hd)
  have H2 := Lib.hid (fun W => rcmpf_any a b c d W ha hb hc hd)
  have H3 := Lib.hid (fun W => cmpf_any c d a b W hc hd ha hb)
  have H4 := Lib.hid (fun W => cmpf_any a b a b W ha hb ha hb)
  obtain ⟨l1, l2⟩ := cmpF_lim a b c d
  rw [cmpF_turn a b c d] at H3
  rw [cmpF_same] at H4
  obtain ⟨C, hC⟩ : ∃ C, cmpF a b c d = C := ⟨_, rfl⟩
  rw [hC] at H1 H2 H3 l1 l2
  clear hC ha hb hc hd
  go_enter Try.func6, Try.ntmps6
  go_wp2_with fail
  refine hw _ ?_
  intro w1 f1
  clear hw
  go_wp2_with fail
  refine (H1.out _).mono ?_
  rintro e w2 ⟨rfl, f2⟩
  go_wp2_with fail
  refine (H2.out _).mono ?_
  rintro e w3 ⟨rfl, f3⟩
  go_wp2_with fail
  refine (H3.out _).mono ?_
  rintro e w4 ⟨rfl, f4⟩
  go_wp2_with fail
  refine (H1.out _).mono ?_
  rintro e w5 ⟨rfl, f5⟩
  go_wp2_with fail
  refine (H4.out _).mono ?_
  rintro e w6 ⟨rfl, f6⟩
  go_wp2
  go_ret
  exact ⟨rfl, ((((f1.trans0 f2).trans0 f3).trans0 f4).trans0 f5).trans0 f6⟩
end Go.Proofs.Ytcfddbhkcbflbaa
