/- Steps of the landed histograms are what the law asks. -/
import Derived.Test.YthfcfmnaiopogaaGreatHrDbl
import Derived.Test.YthfcfmnaiopogaaGreatHrGot
namespace Go.Proofs.YthfcfmnaiopogaaGreat
open Go.RowKit

theorem cell_up {M : Hm} (hg : M.Good) {v w : Int} (h : v ≤ w) (hw : w < 9223372036854775808) : M.cell v ≤ M.cell w := by
  have := idx_mono M.u M.m v.toNat w.toNat hg.m1 (by omega) (by omega)
  unfold Hm.cell
  omega
theorem bel_first {M : Hm} (hg : M.Good) : bel M.l (M.cell 0) = 0 := by
  refine bel_zero fun x hx => ?_
  obtain ⟨i, hi, h2, h3⟩ := hg.cell hx
  have h4 := idx_vof M.u M.m i hg.m1 (by have := hg.s; omega) h3
  have h5 := vof_lt M.u M.m i hg.m1 (by have := hg.s; omega) h3
  have h6 := idx_mono M.u M.m 0 (vof M.u M.m i) hg.m1 (by have := two_pos (M.u + ibk M.m i); omega) (by omega)
  unfold Hm.cell
  rw [show (0 : Int).toNat = 0 from rfl]
  omega
theorem between_upt {M : Hm} (hg : M.Good) {v : Int} (h0 : 0 ≤ v) (hv : v < 9223372036854775808) : M.between 0 v = upt M.l (M.cell v) := by
  unfold Hm.between
  rw [if_neg (by omega)]
  have := btw_upt M.l (M.cell 0) (M.cell v) (cell_up hg h0 hv)
  rw [bel_first hg] at this
  omega
/-- the values, as a row -/
def tzs (tv : Nat → Int) (n : Nat) : List Int := (List.range n).map tv
theorem tzs_len (tv : Nat → Int) (n : Nat) : (tzs tv n).length = n := by simp [tzs]
theorem tzs_succ (tv : Nat → Int) (n : Nat) : tzs tv (n + 1) = tzs tv n ++ [tv n] := by simp [tzs, List.range_succ]
theorem tzs_at (tv : Nat → Int) {n i : Nat} (h : i < n) : (tzs tv n).getD i 0 = tv i := by simp [tzs, h]
theorem stL_len (M : Hm) (tv : Nat → Int) (n : Nat) : (stL M tv n).length = n := by simp [stL]
theorem wasU_tos {M : Hm} (hg : M.Good) {tv : Nat → Int} (h0 : ∀ j, 0 ≤ tv j ∧ tv j < 9223372036854775808) {I : Nat} : ∀ i, i ≤ I → wasU M (tzs tv I) i = cumU M tv i
  | 0, _ => rfl
  | i + 1, h => by rw [wasU, cumU, tzs_at tv (by omega), between_upt hg (h0 i).1 (h0 i).2]
theorem stp_of {M : Hm} (hg : M.Good) {tv : Nat → Int} (h0 : ∀ j, 0 ≤ tv j ∧ tv j < 9223372036854775808) (hm : ∀ j, cumU M tv j ≤ cumU M tv (j + 1)) {I n : Nat} (hI : cumU M tv I = ltot M.l) (hlt : ∀ i, i < n → cumU M tv i < ltot M.l) (heq : cumU M tv n = ltot M.l) : Stp M (tzs tv I) (stL M tv n) := by
  have hn : n ≤ I := by
    rcases Nat.lt_or_ge I n with h1 | h1
    · have := hlt I h1
      omega
    · exact h1
  refine ⟨by rw [stL_len, tzs_len]; exact hn, fun h => ?_, fun h => ?_, fun i hi => ?_, by rw [stL_len, wasU_tos hg h0 n hn]; exact heq⟩
  · rw [stL_len]
    rcases Nat.eq_zero_or_pos n with h1 | h1
    · exact h1
    · have := hlt 0 h1
      omega
  · rw [stL_len]
    rcases Nat.eq_zero_or_pos n with h1 | h1
    · rw [h1] at heq
      have : cumU M tv 0 = 0 := rfl
      omega
    · exact h1
  · rw [stL_len] at hi
    refine ⟨?_, ?_, ?_⟩
    · rw [tzs_at tv (by omega), wasU_tos hg h0 i (by omega), wasU_tos hg h0 (i + 1) (by omega)]
      simp [stL]
    · rw [wasU_tos hg h0 i (by omega), wasU_tos hg h0 (i + 1) (by omega)]
      exact hm i
    · rw [wasU_tos hg h0 i (by omega)]
      exact hlt i hi
theorem tzs_bd {tv : Nat → Int} (h0 : ∀ j, 0 ≤ tv j ∧ tv j < 9223372036854775808) (n : Nat) : ∀ v ∈ tzs tv n, -9223372036854775808 ≤ v ∧ v ≤ 9223372036854775807 := fun v hv => by
  obtain ⟨j, -, rfl⟩ := List.mem_map.1 hv
  have := h0 j
  omega
theorem ZI.ofOwns {w : World} {q : Option Addr} {n d : Nat} {l : List Int} (h : w.ownsRow 0 2 1 (.slice q n d) n (zs l)) : ZI w q l := by
  have hlen : l.length = n := by have h1 := h.1; simpa [zs] using h1
  intro i hi
  rcases h.2 with ⟨hv, hn⟩ | ⟨g, cap, cur, hv, _⟩
  · omega
  · simp only [Value.slice.injEq] at hv
    obtain ⟨rfl, -, rfl⟩ := hv
    refine ⟨g, 0, rfl, ?_⟩
    rw [Nat.zero_add]
    refine (h.cellAt _ (by omega)).trans ?_
    simp [zs, hi]
theorem AccZ.none (w wr : World) (f : Fr S0 w wr) : AccZ w wr (.slice none 0 0) 0 [] := ⟨World.ownsRow_nil _ _ _ _, fresh_nil _ _, f⟩
theorem lin_bd (width : Nat) (hw : width < 9223372036854775808) (j : Nat) : 0 ≤ tos width (fun e => e + width) j ∧ tos width (fun e => e + width) j < 9223372036854775808 := by
  unfold tos
  rw [ends_lin hw]
  have := Nat.mul_le_mul_right width (show 1 ≤ j + 1 by omega)
  omega
theorem lin_up (width : Nat) (hw : width < 9223372036854775808) (j : Nat) : tos width (fun e => e + width) j ≤ tos width (fun e => e + width) (j + 1) := by
  unfold tos
  rw [ends_lin hw, ends_lin hw]
  have := Nat.mul_le_mul_right width (show j + 1 ≤ j + 1 + 1 by omega)
  omega
/-- where the document's steps end, all is told -/
theorem lin_end {M : Hm} (hg : M.Good) {width : Nat} (hw : width < 9223372036854775808) {I : Nat} (hI : 0 < I) (hB : (endV M M.least 1 1 : Int) ≤ tos width (fun e => e + width) (I - 1)) : cumU M (tos width (fun e => e + width)) I = ltot M.l := by
  obtain ⟨J, rfl⟩ : ∃ J, I = J + 1 := ⟨I - 1, by omega⟩
  rw [cumU]
  exact upt_last hg hB (lin_bd width hw _).2
theorem near_end {M : Hm} (hg : M.Good) {width : Nat} (h1 : 1 ≤ width) (hw : width < 9223372036854775808) (hf : ¬ LinFar M width) : (endV M M.least 1 1 : Int) ≤ tos width (fun e => e + width) 4095 := by
  have hB := least_lt hg
  unfold tos
  rw [ends_lin hw]
  unfold LinFar at hf
  by_cases hE : rkE 1 1 (ltot M.l) = 0
  · have h2 : endV M M.least 1 1 / width < 4096 := by
      rcases Nat.lt_or_ge (endV M M.least 1 1 / width) 4096 with h | h
      · exact h
      · exact absurd ⟨hE, h⟩ hf
    have h3 := (Nat.div_lt_iff_lt_mul (show 0 < width by omega)).1 h2
    omega
  · rw [show endV M M.least 1 1 = 0 by unfold endV; rw [if_neg hE]]
    omega
theorem dbl_bd {first base : Nat} (h1 : 1 ≤ first) (h2 : first < 9223372036854775808) (hb : 2 ≤ base) (j : Nat) : 0 ≤ tos first (dbl base) j ∧ tos first (dbl base) j < 9223372036854775808 := by
  have h3 := ends_bd h1 (Nat.le_of_lt h2) (nx := dbl base) (fun e h3 h4 => Nat.le_trans h3 (dbl_up hb h4)) j
  unfold tos
  omega
theorem dbl_up2 {first base : Nat} (h1 : 1 ≤ first) (h2 : first < 9223372036854775808) (hb : 2 ≤ base) (j : Nat) : tos first (dbl base) j ≤ tos first (dbl base) (j + 1) := by
  have h3 := ends_bd h1 (Nat.le_of_lt h2) (nx := dbl base) (fun e h3 h4 => Nat.le_trans h3 (dbl_up hb h4)) j
  have h4 := dbl_up hb h3.2
  unfold tos
  simp only [ends]
  omega
theorem dbl_times {first base : Nat} (h1 : 1 ≤ first) (h2 : first < 9223372036854775808) (hb : 2 ≤ base) (j : Nat) : tos first (dbl base) (j + 1) = (times (ends first (dbl base) j - 1) base : Nat) := by
  have h3 := ends_bd h1 (Nat.le_of_lt h2) (nx := dbl base) (fun e h3 h4 => Nat.le_trans h3 (dbl_up hb h4)) j
  unfold tos times
  simp only [ends]
  rw [Nat.sub_add_cancel h3.1]
  unfold dbl
  have h4 := Nat.mul_le_mul h3.1 hb
  split <;> omega
end Go.Proofs.YthfcfmnaiopogaaGreat
