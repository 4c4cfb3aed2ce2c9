/- Averages of two, and what lies between. -/
import Derived.Test.YtmaiahkkekkbbaaWdMean
namespace Go.Proofs.Ytmaiahkkekkbbaa
open Go.RowKit

theorem MeanEnds.yes {w w' : World} {l : List Tm} {e : Ending} (h : MeanEnds w l e w') (hn : ¬ MeanNo l) : e = .returned (.tuple #[.int .i64 (((lsm l / wts l : Nat) : Int) - 9223372036854775808), .int .i64 0]) ∧ Fr S0 w w' := by
  unfold MeanEnds at h
  rw [if_neg hn] at h
  exact h
theorem MeanEnds.no {w w' : World} {l : List Tm} {e : Ending} (h : MeanEnds w l e w') (hn : MeanNo l) : e = .returned (.tuple #[.int .i64 0, .int .i64 100]) ∧ Fr S0 w w' := by
  unfold MeanEnds at h
  rw [if_pos hn] at h
  exact h

set_option maxRecDepth 100000 in
set_option maxHeartbeats 1000000 in
theorem avg_any (m n : Int) (v u : Nat) (w : World) (h1 : TmOk (m, v)) (h2 : TmOk (n, u)) :
    Calls Try.prog 25 #[.int .i64 m, .int .u64 (v : Int), .int .i64 n, .int .u64 (u : Int)] w (MeanEnds w [(m, v), (n, u)]) := by
  have HT : Hid (TmI (w.alloc (.cells #[.int .i64 m, .int .u64 (v : Int), .int .i64 n, .int .u64 (u : Int)] 58)) (some ⟨w.heap.size, 0, none⟩) [(m, v), (n, u)]) := Lib.hid ⟨by unfold maxLen; simp, fun _ => ⟨w.heap.size, 0, rfl, fun i hi => by
    have hb := heap_alloc_new w (.cells #[.int .i64 m, .int .u64 (v : Int), .int .i64 n, .int .u64 (u : Int)] 58)
    have : i = 0 ∨ i = 1 := by simp at hi; omega
    rcases this with rfl | rfl <;> exact ⟨(cell_of_row _ _ _ _ _ _ hb).trans rfl, (cell_of_row _ _ _ _ _ _ hb).trans rfl⟩⟩⟩
  have HM := Lib.hid (fun W (h : TmI W (some ⟨w.heap.size, 0, none⟩) [(m, v), (n, u)]) => mean_any (some ⟨w.heap.size, 0, none⟩) 2 [(m, v), (n, u)] W h (by intro t ht; simp at ht; rcases ht with rfl | rfl; exact h1; exact h2))
  have HL : Hid ([(m, v), (n, u)].length = 2) := Lib.hid rfl
  obtain ⟨L, hL⟩ : ∃ L, [(m, v), (n, u)] = L := ⟨_, rfl⟩
  rw [hL] at HT HM HL ⊢
  rw [HL.out] at HM
  clear hL h1 h2 HL
  go_enter Try.func25, Try.ntmps25
  go_wp2_with fail
  refine (HM.out _ HT.out).mono ?_
  rintro e w1 ⟨he, f1⟩
  have HF : Hid (Fr S0 w w1) := Lib.hid ((Fr.alloc _ _ _).trans0 f1)
  clear f1
  by_cases hb : MeanNo L
  · have HB := Lib.hid hb
    rw [if_pos hb] at he
    subst he
    clear hb
    go_wp2_with fail
    go_ret2
    exact ⟨by rw [if_pos HB.out]; rfl, HF.out⟩
  · have HB := Lib.hid hb
    rw [if_neg hb] at he
    subst he
    clear hb
    go_wp2_with fail
    go_ret2
    exact ⟨by rw [if_neg HB.out]; rfl, HF.out⟩

set_option maxRecDepth 100000 in
set_option maxHeartbeats 1000000 in
theorem lerp_no (low high : Int) (at_ of_ : Nat) (w : World) (h1 : TmOk (low, at_)) (h2 : TmOk (high, of_)) (hno : high < low ∨ of_ < at_ ∨ of_ = 0) :
    Calls Try.prog 26 #[.int .i64 low, .int .i64 high, .int .u64 (at_ : Int), .int .u64 (of_ : Int)] w fun e w' => e = .returned (.tuple #[.int .i64 0, .int .i64 100]) ∧ Fr S0 w w' := by
  have l1 := h1.lo
  have l2 := h1.hi
  have l3 := h2.lo
  have l4 := h2.hi
  have n1 := h1.n
  have n2 := h2.n
  have HL1 := Lib.hid (fun W => lift_any low W l1 l2)
  have HL2 := Lib.hid (fun W => lift_any high W l3 l4)
  by_cases c1 : high < low
  · clear hno h1 h2 l1 l2 l3 l4 n1 n2
    go_enter Try.func26, Try.ntmps26
    go_wp2
    go_ret2
    exact ⟨rfl, Fr.refl _ _⟩
  · have d1 : decide (high < low) = false := decide_eq_false c1
    by_cases c2 : (at_ : Int) > (of_ : Int)
    · clear hno h1 h2 l1 l2 l3 l4 n1 n2
      go_enter Try.func26, Try.ntmps26
      go_wp2
      go_ret2
      exact ⟨rfl, Fr.refl _ _⟩
    · obtain rfl : of_ = 0 := by omega
      obtain rfl : at_ = 0 := by omega
      have e1 : lft high - lft low < 18446744073709551616 := by unfold lft; simp at l1 l2 l3 l4; omega
      have hle : lft low ≤ lft high := by unfold lft; omega
      have hlt : lft high < 18446744073709551616 := lft_lt h2
      have HMD := Lib.hid (fun W => muldiv_no (lft high - lft low) 0 0 W e1 (by decide) (by decide) (.inl rfl))
      obtain ⟨A, hA⟩ : ∃ A, lft low = A := ⟨_, rfl⟩
      obtain ⟨B, hB⟩ : ∃ B, lft high = B := ⟨_, rfl⟩
      rw [hA] at HL1 hle HMD
      rw [hB] at HL2 hle hlt HMD
      have EB : Hid ((B : Int) - (A : Int) = ((B - A : Nat) : Int)) := Lib.hid (by omega)
      have hle2 : (A : Int) ≤ (B : Int) := by omega
      clear hno h1 h2 hA hB e1 n1 n2 c2
      go_enter Try.func26, Try.ntmps26
      go_wp2_with fail
      refine (HL1.out _).mono ?_
      rintro e w1 ⟨rfl, rfl⟩
      go_wp2_with fail
      refine (HL2.out _).mono ?_
      rintro e w1 ⟨rfl, rfl⟩
      go_wp2_with fail
      rw [EB.out]
      refine (HMD.out _).mono ?_
      rintro e w1 ⟨rfl, f1⟩
      go_wp2_with fail
      go_ret2
      exact ⟨rfl, f1⟩

theorem part_le (D a o : Nat) (ha : a ≤ o) : D * a / o ≤ D := by
  refine Nat.div_le_of_le_mul ?_
  rw [Nat.mul_comm o]
  exact Nat.mul_le_mul_left D ha

set_option maxRecDepth 100000 in
set_option maxHeartbeats 1000000 in
theorem lerp_yes (low high : Int) (at_ of_ : Nat) (w : World) (h1 : TmOk (low, at_)) (h2 : TmOk (high, of_)) (hlh : low ≤ high) (hao : at_ ≤ of_) (ho : 0 < of_) :
    Calls Try.prog 26 #[.int .i64 low, .int .i64 high, .int .u64 (at_ : Int), .int .u64 (of_ : Int)] w fun e w' => e = .returned (.tuple #[.int .i64 (low + (((high - low).toNat * at_ / of_ : Nat) : Int)), .int .i64 0]) ∧ Fr S0 w w' := by
  have l1 := h1.lo
  have l2 := h1.hi
  have l3 := h2.lo
  have l4 := h2.hi
  have n1 := h1.n
  have n2 := h2.n
  have HL1 := Lib.hid (fun W => lift_any low W l1 l2)
  have HL2 := Lib.hid (fun W => lift_any high W l3 l4)
  have d1 : decide (high < low) = false := decide_eq_false (by omega)
  have d2 : decide (of_ < at_) = false := decide_eq_false (by omega)
  have eD : lft high - lft low = (high - low).toNat := by unfold lft; simp at l1 l3; omega
  have hle : lft low ≤ lft high := by unfold lft; omega
  have hlt : lft high < 18446744073709551616 := lft_lt h2
  have hlt1 : lft low < 18446744073709551616 := lft_lt h1
  have hp := part_le (high - low).toNat at_ of_ hao
  have HMD := Lib.hid (fun W => muldiv_yes (high - low).toNat at_ of_ W (by omega) n1 n2 ho (by omega))
  have eL : ((lft low : Nat) : Int) = low + 9223372036854775808 := by unfold lft; simp at l1; omega
  obtain ⟨Q, hQ⟩ : ∃ Q, (high - low).toNat * at_ / of_ = Q := ⟨_, rfl⟩
  obtain ⟨R, hR⟩ : ∃ R, (high - low).toNat * at_ % of_ = R := ⟨_, rfl⟩
  rw [hQ] at hp HMD
  rw [hR] at HMD
  rw [hQ]
  obtain ⟨D, hD⟩ : ∃ D, (high - low).toNat = D := ⟨_, rfl⟩
  rw [hD] at hp HMD eD
  obtain ⟨A, hA⟩ : ∃ A, lft low = A := ⟨_, rfl⟩
  obtain ⟨B, hB⟩ : ∃ B, lft high = B := ⟨_, rfl⟩
  rw [hA] at HL1 hle eD hlt1 eL
  rw [hB] at HL2 hle hlt eD
  have EB : Hid ((B : Int) - (A : Int) = (D : Int)) := Lib.hid (by omega)
  have hle2 : (A : Int) ≤ (B : Int) := by omega
  have hsum : A + Q < 18446744073709551616 := by omega
  have HLO := Lib.hid (fun W => lower_any (A + Q) W hsum)
  have HE : Hid (((A + Q : Nat) : Int) - 9223372036854775808 = low + (Q : Int)) := Lib.hid (by omega)
  have EQ : Hid ((A : Int) + (Q : Int) = ((A + Q : Nat) : Int)) := Lib.hid (by omega)
  clear h1 h2 hA hB hQ hR hD eD eL hp n1 n2 hao ho hlh
  go_enter Try.func26, Try.ntmps26
  go_wp2_with fail
  refine (HL1.out _).mono ?_
  rintro e w1 ⟨rfl, rfl⟩
  go_wp2_with fail
  refine (HL2.out _).mono ?_
  rintro e w1 ⟨rfl, rfl⟩
  go_wp2_with fail
  rw [EB.out]
  refine (HMD.out _).mono ?_
  rintro e w1 ⟨rfl, f1⟩
  go_wp2_with fail
  rw [EQ.out]
  refine (HLO.out _).mono ?_
  rintro e w2 ⟨rfl, rfl⟩
  go_wp2_with fail
  go_ret2
  exact ⟨ret2 HE.out rfl, f1⟩
end Go.Proofs.Ytmaiahkkekkbbaa
