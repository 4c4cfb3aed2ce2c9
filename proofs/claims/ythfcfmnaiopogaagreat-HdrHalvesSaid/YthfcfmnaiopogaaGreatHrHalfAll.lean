/- Steps are what the law asks; parts that come nearer to the whole; Halves of the landed histograms. -/
import Derived.Test.YthfcfmnaiopogaaGreatHrRise
import Derived.Test.YthfcfmnaiopogaaGreatHrReal
import Derived.Test.YthfcfmnaiopogaaGreatHrGot
namespace Go.Proofs.YthfcfmnaiopogaaGreat
open Go.RowKit Go.ChangeMaps

theorem cell_up {M : Hm} (hg : M.Good) {v w : Int} (h : v ≤ w) (hw : w < 9223372036854775808) : M.cell v ≤ M.cell w := by
  have := idx_mono M.u M.m v.toNat w.toNat hg.m1 (by omega) (by omega)
  unfold Hm.cell
  omega
theorem bel_first {M : Hm} (hg : M.Good) : bel M.l (M.cell 0) = 0 := by
  refine bel_zero fun x hx => ?_
  obtain ⟨i, hi, h2, h3⟩ := hg.cell hx
  have h4 := idx_vof M.u M.m i hg.m1 (by have := hg.s; omega) h3
  have h5 := vof_lt M.u M.m i hg.m1 (by have := hg.s; omega) h3
  have h6 := idx_mono M.u M.m 0 (vof M.u M.m i) hg.m1 (by have := two_pos (M.u + ibk M.m i); omega) (by omega)
  unfold Hm.cell
  rw [show (0 : Int).toNat = 0 from rfl]
  omega
theorem between_upt {M : Hm} (hg : M.Good) {v : Int} (h0 : 0 ≤ v) (hv : v < 9223372036854775808) : M.between 0 v = upt M.l (M.cell v) := by
  unfold Hm.between
  rw [if_neg (by omega)]
  have := btw_upt M.l (M.cell 0) (M.cell v) (cell_up hg h0 hv)
  rw [bel_first hg] at this
  omega
/-- the values, as a row -/
def tzs (tv : Nat → Int) (n : Nat) : List Int := (List.range n).map tv
theorem tzs_len (tv : Nat → Int) (n : Nat) : (tzs tv n).length = n := by simp [tzs]
theorem tzs_succ (tv : Nat → Int) (n : Nat) : tzs tv (n + 1) = tzs tv n ++ [tv n] := by simp [tzs, List.range_succ]
theorem tzs_at (tv : Nat → Int) {n i : Nat} (h : i < n) : (tzs tv n).getD i 0 = tv i := by simp [tzs, h]
theorem stL_len (M : Hm) (tv : Nat → Int) (n : Nat) : (stL M tv n).length = n := by simp [stL]
theorem wasU_tos {M : Hm} (hg : M.Good) {tv : Nat → Int} (h0 : ∀ j, 0 ≤ tv j ∧ tv j < 9223372036854775808) {I : Nat} : ∀ i, i ≤ I → wasU M (tzs tv I) i = cumU M tv i
  | 0, _ => rfl
  | i + 1, h => by rw [wasU, cumU, tzs_at tv (by omega), between_upt hg (h0 i).1 (h0 i).2]
theorem stp_of {M : Hm} (hg : M.Good) {tv : Nat → Int} (h0 : ∀ j, 0 ≤ tv j ∧ tv j < 9223372036854775808) (hm : ∀ j, cumU M tv j ≤ cumU M tv (j + 1)) {I n : Nat} (hI : cumU M tv I = ltot M.l) (hlt : ∀ i, i < n → cumU M tv i < ltot M.l) (heq : cumU M tv n = ltot M.l) : Stp M (tzs tv I) (stL M tv n) := by
  have hn : n ≤ I := by
    rcases Nat.lt_or_ge I n with h1 | h1
    · have := hlt I h1
      omega
    · exact h1
  refine ⟨by rw [stL_len, tzs_len]; exact hn, fun h => ?_, fun h => ?_, fun i hi => ?_, by rw [stL_len, wasU_tos hg h0 n hn]; exact heq⟩
  · rw [stL_len]
    rcases Nat.eq_zero_or_pos n with h1 | h1
    · exact h1
    · have := hlt 0 h1
      omega
  · rw [stL_len]
    rcases Nat.eq_zero_or_pos n with h1 | h1
    · rw [h1] at heq
      have : cumU M tv 0 = 0 := rfl
      omega
    · exact h1
  · rw [stL_len] at hi
    refine ⟨?_, ?_, ?_⟩
    · rw [tzs_at tv (by omega), wasU_tos hg h0 i (by omega), wasU_tos hg h0 (i + 1) (by omega)]
      simp [stL]
    · rw [wasU_tos hg h0 i (by omega), wasU_tos hg h0 (i + 1) (by omega)]
      exact hm i
    · rw [wasU_tos hg h0 i (by omega)]
      exact hlt i hi
theorem tzs_bd {tv : Nat → Int} (h0 : ∀ j, 0 ≤ tv j ∧ tv j < 9223372036854775808) (n : Nat) : ∀ v ∈ tzs tv n, -9223372036854775808 ≤ v ∧ v ≤ 9223372036854775807 := fun v hv => by
  obtain ⟨j, -, rfl⟩ := List.mem_map.1 hv
  have := h0 j
  omega
theorem ZI.ofOwns {w : World} {q : Option Addr} {n d : Nat} {l : List Int} (h : w.ownsRow 0 2 1 (.slice q n d) n (zs l)) : ZI w q l := by
  have hlen : l.length = n := by have h1 := h.1; simpa [zs] using h1
  intro i hi
  rcases h.2 with ⟨hv, hn⟩ | ⟨g, cap, cur, hv, _⟩
  · omega
  · simp only [Value.slice.injEq] at hv
    obtain ⟨rfl, -, rfl⟩ := hv
    refine ⟨g, 0, rfl, ?_⟩
    rw [Nat.zero_add]
    refine (h.cellAt _ (by omega)).trans ?_
    simp [zs, hi]
theorem AccZ.none (w wr : World) (f : Fr S0 w wr) : AccZ w wr (.slice none 0 0) 0 [] := ⟨World.ownsRow_nil _ _ _ _, fresh_nil _ _, f⟩
theorem vof_up (u m i : Nat) (hm : 1 ≤ m) : ∀ d, vof u m i ≤ vof u m (i + d)
  | 0 => Nat.le_refl _
  | d + 1 => by
    have ih := vof_up u m i hm d
    have hp := two_pos (u + ibk m (i + d))
    rw [← Nat.add_assoc, vof_next u m (i + d) hm]
    omega
/-- the greatest value of a cell lies in it -/
theorem idx_most (u m i : Nat) (hm : 1 ≤ m) (hs : u + m ≤ 62) (h : ibk m i ≤ 63 - (u + m)) : idx u m (vof u m i + (2 ^ (u + ibk m i) - 1)) = i := by
  have h1 := vof_lt u m i hm (by omega) h
  have h2 := two_pos (u + ibk m i)
  have h3 := idx_vof u m i hm (by omega) h
  have h4 := idx_mono u m (vof u m i) (vof u m i + (2 ^ (u + ibk m i) - 1)) hm (by omega) (by omega)
  have h5 := vof_idx u m (vof u m i + (2 ^ (u + ibk m i) - 1)) hm (by omega)
  have h6 := beg_le u m (vof u m i + (2 ^ (u + ibk m i) - 1))
  rcases Nat.lt_or_ge i (idx u m (vof u m i + (2 ^ (u + ibk m i) - 1))) with h7 | h7
  · exfalso
    obtain ⟨e, he⟩ : ∃ e, idx u m (vof u m i + (2 ^ (u + ibk m i) - 1)) = i + 1 + e := ⟨idx u m (vof u m i + (2 ^ (u + ibk m i) - 1)) - (i + 1), by omega⟩
    have h8 := vof_up u m (i + 1) hm e
    rw [vof_next u m i hm, ← he, h5] at h8
    omega
  · omega
def hD (t q : Nat) : Nat := 2 ^ (q + 1) * t
def hA (t q r : Nat) : Nat := hD t q - 2 * t + r
/-- the part that the j-th step goes to -/
def hvA (t j : Nat) : Nat := hA t (j / t) (j % t)
def hvD (t j : Nat) : Nat := hD t (j / t)
theorem hD_ge (t q : Nat) : 2 * t ≤ hD t q := by
  have h1 : 2 ^ 1 ≤ 2 ^ (q + 1) := Nat.pow_le_pow_right (by decide) (by omega)
  exact Nat.mul_le_mul_right t h1
theorem hD_succ (t q : Nat) : hD t (q + 1) = 2 * hD t q := by
  unfold hD
  rw [Nat.pow_succ 2 (q + 1), Nat.mul_comm (2 ^ (q + 1)) 2, Nat.mul_assoc]
theorem hv_le {t : Nat} (ht : 0 < t) (j : Nat) : hvA t j ≤ hvD t j ∧ 0 < hvD t j := by
  have h1 := Nat.mod_lt j ht
  have h2 := hD_ge t (j / t)
  unfold hvA hvD hA
  omega
theorem hv_next {t : Nat} (ht : 0 < t) (j : Nat) : hvA t j * hvD t (j + 1) ≤ hvA t (j + 1) * hvD t j := by
  have h1 := Nat.mod_lt j ht
  have e : j = j % t + j / t * t := by have := Nat.div_add_mod j t; rw [Nat.mul_comm] at this; omega
  have h2 := hD_ge t (j / t)
  by_cases hc : j % t + 1 < t
  · have d1 : (j + 1) / t = j / t := by
      conv => lhs; rw [e]
      rw [show j % t + j / t * t + 1 = (j % t + 1) + j / t * t by omega, Nat.add_mul_div_right _ _ ht, Nat.div_eq_of_lt hc, Nat.zero_add]
    have m1 : (j + 1) % t = j % t + 1 := by
      conv => lhs; rw [e]
      rw [show j % t + j / t * t + 1 = (j % t + 1) + j / t * t by omega, Nat.add_mul_mod_self_right, Nat.mod_eq_of_lt hc]
    unfold hvA hvD hA
    rw [d1, m1]
    exact Nat.mul_le_mul_right _ (by omega)
  · have d1 : (j + 1) / t = j / t + 1 := by
      conv => lhs; rw [e]
      rw [show j % t + j / t * t + 1 = 0 + (j / t + 1) * t by rw [Nat.add_mul]; omega, Nat.add_mul_div_right _ _ ht, Nat.zero_div, Nat.zero_add]
    have m1 : (j + 1) % t = 0 := by
      conv => lhs; rw [e]
      rw [show j % t + j / t * t + 1 = 0 + (j / t + 1) * t by rw [Nat.add_mul]; omega, Nat.add_mul_mod_self_right, Nat.zero_mod]
    unfold hvA hvD hA
    rw [d1, m1, hD_succ]
    generalize hD t (j / t) = P at h2 ⊢
    calc (P - 2 * t + j % t) * (2 * P) ≤ (P - t) * (2 * P) := Nat.mul_le_mul_right _ (by omega)
      _ = (2 * (P - t)) * P := by rw [Nat.mul_comm 2 P, ← Nat.mul_assoc, Nat.mul_comm (2 * (P - t)), ← Nat.mul_assoc, Nat.mul_comm (P - t) P, Nat.mul_comm P 2, Nat.mul_assoc 2, Nat.mul_comm 2 (P * (P - t))]
      _ ≤ (2 * P - 2 * t + 0) * P := Nat.mul_le_mul_right _ (by omega)
/-- where the j-th step goes to -/
def tvH (M : Hm) (t j : Nat) : Int := (endV M M.most (hvA t j) (hvD t j) : Nat)
section
variable {M : Hm} (hg : M.Good) (hp : 0 < ltot M.l) {t : Nat} (ht : 0 < t)
include hg hp ht
omit hg in
theorem hv_rk (j : Nat) : rkE (hvA t j) (hvD t j) (ltot M.l) = 0 ∧ rkR (hvA t j) (hvD t j) (ltot M.l) = rnk (hvA t j) (hvD t j) (ltot M.l) :=
  rkE_some (hv_le ht j).2 (hv_le ht j).1 hp
theorem tvH_cell (j : Nat) : M.cell (tvH M t j) = keyW M.l (rnk (hvA t j) (hvD t j) (ltot M.l)) := by
  obtain ⟨e1, e2⟩ := hv_rk hp ht j
  have h1 := rnk_all (hv_le ht j).1 hp
  obtain ⟨⟨x, hx, hxk⟩, -, -⟩ := keyW_rank hg.srt h1.1 h1.2
  obtain ⟨i, hi, -, h3⟩ := hg.cell hx
  have h4 := idx_most M.u M.m i hg.m1 hg.s h3
  unfold tvH endV
  rw [if_pos e1, e2, ← hxk, hi]
  unfold Hm.cell Hm.most
  rw [show ((i : Nat) : Int).toNat = i by omega, show ((vof M.u M.m i + (2 ^ (M.u + ibk M.m i) - 1) : Nat) : Int).toNat = vof M.u M.m i + (2 ^ (M.u + ibk M.m i) - 1) by omega, h4]
theorem tvH_up (j : Nat) : cumU M (tvH M t) j ≤ cumU M (tvH M t) (j + 1) := by
  cases j with
  | zero => exact Nat.zero_le _
  | succ j =>
    refine upt_up _ ?_
    rw [tvH_cell hg hp ht, tvH_cell hg hp ht]
    exact keyW_mono hg.srt (rnk_all (hv_le ht j).1 hp).1 (rnk_mono (hv_le ht (j + 1)).2 (hv_next ht j)) (rnk_all (hv_le ht (j + 1)).1 hp).2
omit hp ht in
theorem tvH_bd (j : Nat) : 0 ≤ tvH M t j ∧ tvH M t j < 9223372036854775808 := by
  have := endV_lt hg (hvA t j) (hvD t j)
  unfold tvH
  omega
theorem cumU_chain (a : Nat) : ∀ d, cumU M (tvH M t) a ≤ cumU M (tvH M t) (a + d)
  | 0 => Nat.le_refl _
  | d + 1 => Nat.le_trans (cumU_chain a d) (tvH_up hg hp ht (a + d))
theorem half_end (h4 : ltot M.l ≤ 60000) (J : Nat) (hJ : 16 * t + 1 ≤ J) : cumU M (tvH M t) J = ltot M.l := by
  have h1 : cumU M (tvH M t) (16 * t + 1) = ltot M.l := by
    rw [cumU, tvH_cell hg hp ht]
    have h2 := rnk_all (hv_le ht (16 * t)).1 hp
    have h3 : rnk (hvA t (16 * t)) (hvD t (16 * t)) (ltot M.l) = ltot M.l := by
      have e1 : 16 * t / t = 16 := Nat.mul_div_cancel _ ht
      have e2 : 16 * t % t = 0 := Nat.mul_mod_left _ _
      have e3 : hvD t (16 * t) = 131072 * t := by unfold hvD hD; rw [e1]
      have e4 : hvA t (16 * t) = 131070 * t := by unfold hvA hA hD; rw [e1, e2]; omega
      rw [e3, e4] at h2 ⊢
      have h5 := clg_up (131070 * t * ltot M.l) (d := 131072 * t) (by omega)
      have h6 : clg (131070 * t * ltot M.l) (131072 * t) ≤ rnk (131070 * t) (131072 * t) (ltot M.l) := by unfold rnk; omega
      have h7 := Nat.le_trans h5 (Nat.mul_le_mul_right (131072 * t) h6)
      generalize rnk (131070 * t) (131072 * t) (ltot M.l) = R at h2 h7 ⊢
      have h8 : (131070 * ltot M.l) * t ≤ (R * 131072) * t := by
        calc (131070 * ltot M.l) * t = 131070 * t * ltot M.l := by rw [Nat.mul_right_comm]
          _ ≤ R * (131072 * t) := h7
          _ = (R * 131072) * t := by rw [Nat.mul_assoc]
      have h9 := Nat.le_of_mul_le_mul_right h8 ht
      omega
    rw [h3]
    have h5 := (keyW_rank hg.srt (show 1 ≤ ltot M.l by omega) (Nat.le_refl _)).2.2
    have h6 := upt_le M.l (keyW M.l (ltot M.l))
    omega
  obtain ⟨d, rfl⟩ : ∃ d, J = 16 * t + 1 + d := ⟨J - (16 * t + 1), by omega⟩
  have h2 := cumU_chain hg hp ht (16 * t + 1) d
  have h3 : cumU M (tvH M t) (16 * t + 1 + d) ≤ ltot M.l := by
    rw [show 16 * t + 1 + d = (16 * t + d) + 1 by omega, cumU]
    exact upt_le _ _
  omega
end
theorem hD_lt {t q : Nat} (ht : t ≤ 64) (hq : q ≤ 20) : hD t q ≤ 134217728 := by
  have h1 : 2 ^ (q + 1) ≤ 2 ^ 21 := Nat.pow_le_pow_right (by decide) (by omega)
  have h2 : 2 ^ (q + 1) * t ≤ 2 ^ 21 * 64 := Nat.mul_le_mul h1 ht
  unfold hD
  omega
section
variable (w : World)
set_option maxRecDepth 100000 in
set_option maxHeartbeats 400000 in
theorem halved_any (q r t : Nat) (ht : t ≤ 64) (hq : q ≤ 20) (hr : r ≤ 64) : Calls Tryz.prog 91 #[.int .i64 (q : Nat), .int .i64 (r : Nat), .int .i64 (t : Nat)] w fun e w' => e = .returned (.tuple #[.int .u64 (hA t q r : Nat), .int .u64 (hD t q : Nat)]) ∧ w' = w := by
  have hd := hD_lt ht hq
  have h2 := hD_ge t q
  have w1 : IntKind.u64.wrap (t : Int) = (t : Int) := by rw [IntKind.wrap_u64]; omega
  have w2 : IntKind.i64.wrap ((q : Int) + 1) = ((q + 1 : Nat) : Int) := by rw [IntKind.wrap_i64]; omega
  have w3 : IntKind.u64.wrap (r : Int) = (r : Int) := by rw [IntKind.wrap_u64]; omega
  have w4 : IntKind.u64.wrap (2 * (t : Int)) = 2 * (t : Int) := by rw [IntKind.wrap_u64]; omega
  have e0 : hA t q r = hD t q - 2 * t + r := rfl
  have eD : (t : Int) * 2 ^ (q + 1) = (hD t q : Int) := by
    unfold hD
    rw [Int.natCast_mul, Int.natCast_pow, Int.mul_comm]
    rfl
  obtain ⟨P, eP⟩ : ∃ P, hD t q = P := ⟨_, rfl⟩
  obtain ⟨A, eA⟩ : ∃ A, hA t q r = A := ⟨_, rfl⟩
  rw [eP] at eD hd h2 e0 ⊢
  rw [eA] at e0 ⊢
  have w5 : IntKind.u64.wrap (P : Int) = (P : Int) := by rw [IntKind.wrap_u64]; omega
  have w6 : IntKind.u64.wrap ((P : Int) - 2 * (t : Int)) = (P : Int) - 2 * (t : Int) := by rw [IntKind.wrap_u64]; omega
  have w7 : IntKind.u64.wrap ((P : Int) - 2 * (t : Int) + (r : Int)) = (A : Int) := by rw [IntKind.wrap_u64]; omega
  clear eP eA
  go_enter Tryz.func91, Tryz.ntmps91
  go_wp2_with fail
  go_ret2
  exact ⟨by rw [e0, Int.natCast_add]; rfl, rfl⟩
end
theorem half1_has : Has 90 := fun _ _ => by kernel_rfl
section
variable (g h gt b2 b3 b6 b7 j t : Nat) (M : Hm) (W : World)
set_option maxRecDepth 100000 in
set_option maxHeartbeats 1000000 in
theorem halve_one (ht0 : 0 < t) (ht : t ≤ 64) (hj : j / t ≤ 20) (hj2 : j ≤ 100000) (hp : 0 < ltot M.l) (h7 : W.heap[b7]? = some (.cells #[.int .i64 (j : Nat)] 3 (0, 0)))
    (hc : ∀ W', Fr (fun b => b = b7) W W' → W'.cell? ⟨b3, 0, none⟩ = some (.int .i64 (t : Nat)) ∧ W'.cell? ⟨b2, 0, none⟩ = some (.pointer (some ⟨g, 0, none⟩)) ∧ W'.cell? ⟨b6, 0, none⟩ = some (.pointer (some ⟨gt, 0, none⟩)) ∧ HistIs W' g h M ∧ TabIs W' gt M.l) :
    Calls Tryz.prog 90 #[.pointer (some ⟨b7, 0, none⟩), .pointer (some ⟨b3, 0, none⟩), .pointer (some ⟨b2, 0, none⟩), .pointer (some ⟨b6, 0, none⟩)] W fun e w' => e = .returned (.int .i64 (tvH M t j)) ∧ w'.heap[b7]? = some (.cells #[.int .i64 (j + 1 : Nat)] 3 (0, 0)) ∧ Fr (fun b => b = b7) W w' := by
  obtain ⟨c7, z7⟩ := cell_of h7
  have H7 := Lib.hid h7
  obtain ⟨c3, c2, c6, hh, -⟩ := hc W (Fr.refl _ _)
  have HHD := Lib.hid (fun W => halved_any W (j / t) (j % t) t ht hj (by have := Nat.mod_lt j ht0; omega))
  have HEN := Lib.hid (fun W' (f : Fr (fun b => b = b7) W W') => xend_any g h M W' (hc W' f).2.2.2.1 65 gt (hvA t j) (hvD t j) M.most (by have := hD_lt ht hj; unfold hvD; omega) (hc W' f).2.2.2.2 high_has fun i W2 f2 hi _ => high_tells g h M W' (hc W' f).2.2.2.1 i W2 f2 hi)
  have hmf : ∀ W, (Instr.makeFunc (.func 65) #[.pointer (some ⟨g, 0, none⟩)] #[]).run Tryz.prog W = .ok (.func (.func 65) #[.pointer (some ⟨g, 0, none⟩)] #[]) W := fun _ => by rfl
  have HCC := Lib.hid (fun W' f => And.intro (hc W' f).1 (And.intro (hc W' f).2.1 (hc W' f).2.2.1))
  rw [show hA t (j / t) (j % t) = hvA t j from rfl, show hD t (j / t) = hvD t j from rfl] at HHD
  have hTV : tvH M t j = (endV M M.most (hvA t j) (hvD t j) : Nat) := rfl
  have hE := (hv_rk hp ht0 j).1
  obtain ⟨A, eA⟩ : ∃ A, hvA t j = A := ⟨_, rfl⟩
  obtain ⟨D, eD⟩ : ∃ D, hvD t j = D := ⟨_, rfl⟩
  obtain ⟨X, eX⟩ : ∃ X, endV M M.most A D = X := ⟨_, rfl⟩
  simp only [eA, eD, eX] at HHD HEN hTV hE
  simp only [hE] at HEN
  rw [hTV]
  have q1 : (j : Int).tdiv (t : Int) = ((j / t : Nat) : Int) := rfl
  have q2 : (j : Int).tmod (t : Int) = ((j % t : Nat) : Int) := rfl
  have q3 : j / t ≤ j := Nat.div_le_self _ _
  have q4 : j % t ≤ j := Nat.mod_le _ _
  obtain ⟨Q, eQ⟩ : ∃ Q, j / t = Q := ⟨_, rfl⟩
  obtain ⟨R, eR⟩ : ∃ R, j % t = R := ⟨_, rfl⟩
  rw [eQ, eR] at HHD
  rw [eQ] at q1 q3
  rw [eR] at q2 q4
  have tn : (t : Int) ≠ 0 := by omega
  have tn2 : ¬ t = 0 := by omega
  have tn3 : ((t : Int) == 0) = false := by rw [beq_eq_false_iff_ne]; omega
  have w1 : IntKind.i64.wrap (Q : Int) = (Q : Int) := by rw [IntKind.wrap_i64]; omega
  have w2 : IntKind.i64.wrap (R : Int) = (R : Int) := by rw [IntKind.wrap_i64]; omega
  have w3 : IntKind.i64.wrap ((j : Int) + 1) = ((j + 1 : Nat) : Int) := by rw [IntKind.wrap_i64]; omega
  clear hh hTV eA eD eX hE eQ eR h7 hc hp
  go_enter Tryz.func90, Tryz.ntmps90
  go_upto_region 13 with fail
  go_region_held3 (fun w' => w'.cell? ⟨b7, 0, none⟩ = some (.int .i64 (j : Nat)) ∧ w'.cell? ⟨b3, 0, none⟩ = some (.int .i64 (t : Nat)))
    (first | (go_split_ands; exact ⟨by assumption, by assumption⟩) | exact ⟨c7, c3⟩)
    (first | (go_at_call 91; ((with_reducible refine (HHD.out _).mono ?_); rintro _ _ ⟨rfl, rfl⟩)))
  have c7d : W.drew.cell? ⟨b7, 0, none⟩ = some (.int .i64 (j : Nat)) := c7
  have z7d : W.drew.frozen? ⟨b7, 0, none⟩ = false := z7
  obtain ⟨W1, eW1⟩ : ∃ W1, (W.setCell ⟨b7, 0, none⟩ (.int .i64 ((j : Int) + 1))).drew = W1 := ⟨_, rfl⟩
  have F1 : Hid (Fr (fun b => b = b7) W W1) := Lib.hid (eW1 ▸ (fr_cell (w := W) (.int .i64 ((j : Int) + 1))).trans (Fr.drew S0 _) fun _ _ h => False.elim h)
  have HR7 : Hid (W1.heap[b7]? = some (.cells #[.int .i64 (j + 1 : Nat)] 3 (0, 0))) := Lib.hid (eW1 ▸ heap_setCell_same W b7 0 _ _ (.int .i64 ((j : Int) + 1)) H7.out)
  have F1d := Lib.hid (F1.out.trans (Fr.drew S0 W1) fun _ _ h => False.elim h)
  obtain ⟨-, d2, d6⟩ := HCC.out _ F1.out
  clear c7 z7 c3 c2 c6
  go_wp2_with (rw [eW1])
  go_upto_region 14 with fail
  go_region_held3 (fun w' => w'.cell? ⟨b2, 0, none⟩ = some (.pointer (some ⟨g, 0, none⟩)) ∧ w'.cell? ⟨b6, 0, none⟩ = some (.pointer (some ⟨gt, 0, none⟩)))
    (first | (go_split_ands; exact ⟨by assumption, by assumption⟩) | exact ⟨d2, d6⟩ | (go_split_ands; exact ⟨f9.cell (by assumption) (fun h => h), f9.cell (by assumption) (fun h => h)⟩))
    (first | (go_at_call 63; ((with_reducible refine (HEN.out _ F1d.out).mono ?_); rintro _ w3 ⟨rfl, f9⟩; have F3 := Lib.hid ((Fr.drew S0 W1).trans0 f9))))
  all_goals
    go_wp2_with fail
    go_ret
    exact ⟨rfl, F3.out.row HR7.out (fun h => h), F1.out.trans F3.out fun _ _ h => False.elim h⟩
end
section
variable (g h : Nat) (M : Hm) (w : World)
set_option maxRecDepth 100000 in
set_option maxHeartbeats 400000 in
theorem xhalves_no (v : Int) (hv : v < 1 ∨ 64 < v) : Calls Tryz.prog 47 #[.pointer (some ⟨g, 0, none⟩), .int .i64 v] w fun e w' => e = .returned (.tuple #[.slice none 0 0, .int .i64 1]) ∧ Fr S0 w w' := by
  have k1 := new_cell (w.alloc (.cells #[.pointer (some ⟨g, 0, none⟩)] 37)) (.int .i64 v) 3
  rw [size_alloc] at k1
  by_cases h1 : v < 1
  · have hd : decide (v < 1) = true := decide_eq_true h1
    go_enter Tryz.func47, Tryz.ntmps47
    go_wp2_with fail
    go_ret2
    exact ⟨rfl, (Fr.alloc S0 _ _).trans0 (Fr.alloc _ _ _)⟩
  · have hd : decide (v < 1) = false := decide_eq_false h1
    have hd2 : decide (64 < v) = true := decide_eq_true (by omega)
    go_enter Tryz.func47, Tryz.ntmps47
    go_wp2_with fail
    go_ret2
    exact ⟨rfl, (Fr.alloc S0 _ _).trans0 (Fr.alloc _ _ _)⟩
set_option maxRecDepth 100000 in
set_option maxHeartbeats 400000 in
theorem xhalves_cap (s : HistIs w g h M) (t : Nat) (h1 : 1 ≤ t) (h2 : t ≤ 64) (hc : 1125899906842624 < ltot M.l) : Calls Tryz.prog 47 #[.pointer (some ⟨g, 0, none⟩), .int .i64 (t : Nat)] w fun e w' => e = .returned (.tuple #[.slice none 0 0, .int .i64 6]) ∧ Fr S0 w w' := by
  have f1 := Fr.alloc S0 w (.cells #[.pointer (some ⟨g, 0, none⟩)] 37)
  have f2 := Fr.alloc S0 (w.alloc (.cells #[.pointer (some ⟨g, 0, none⟩)] 37)) (.cells #[.int .i64 (t : Nat)] 3)
  have k1 := new_cell (w.alloc (.cells #[.pointer (some ⟨g, 0, none⟩)] 37)) (.int .i64 (t : Nat)) 3
  rw [size_alloc] at k1
  have k0 := f2.cell (new_cell w (.pointer (some ⟨g, 0, none⟩)) 37) (fun h => h)
  have c8 := (s.fr0 (f1.trans0 f2)).c8
  obtain ⟨T, eT⟩ : ∃ T, ltot M.l = T := ⟨_, rfl⟩
  rw [eT] at c8 hc
  have hd : decide ((t : Int) < 1) = false := decide_eq_false (by omega)
  have hd2 : decide (64 < (t : Int)) = false := decide_eq_false (by omega)
  have hd3 : decide ((1125899906842624 : Int) < (T : Int)) = true := decide_eq_true (by omega)
  clear s eT f1 f2
  go_enter Tryz.func47, Tryz.ntmps47
  go_wp2_with fail
  go_ret2
  exact ⟨rfl, (Fr.alloc S0 _ _).trans0 (Fr.alloc _ _ _)⟩
set_option maxRecDepth 100000 in
set_option maxHeartbeats 1000000 in
theorem xhalves_yes (s : HistIs w g h M) (hl : M.l.length ≤ 100000) (t : Nat) (h1 : 1 ≤ t) (h2 : t ≤ 64) (hc : ltot M.l ≤ 60000) : Calls Tryz.prog 47 #[.pointer (some ⟨g, 0, none⟩), .int .i64 (t : Nat)] w fun e w' => ∃ n p c, e = .returned (.tuple #[.slice p n c, .int .i64 0]) ∧ n ≤ 2000 ∧ StI w' p (stL M (tvH M t) n) ∧ (∀ i, i < n → cumU M (tvH M t) i < ltot M.l) ∧ cumU M (tvH M t) n = ltot M.l ∧ Fr S0 w w' := by
  have f1 := Fr.alloc S0 w (.cells #[.pointer (some ⟨g, 0, none⟩)] 37)
  have f2 := Fr.alloc S0 (w.alloc (.cells #[.pointer (some ⟨g, 0, none⟩)] 37)) (.cells #[.int .i64 (t : Nat)] 3)
  have k1 := new_cell (w.alloc (.cells #[.pointer (some ⟨g, 0, none⟩)] 37)) (.int .i64 (t : Nat)) 3
  rw [size_alloc] at k1
  have k0 := f2.cell (new_cell w (.pointer (some ⟨g, 0, none⟩)) 37) (fun h => h)
  have c8 := (s.fr0 (f1.trans0 f2)).c8
  have FW := Lib.hid (f1.trans0 f2)
  have HK := Lib.hid (And.intro k0 k1)
  have HTA := Lib.hid (fun W (f : Fr S0 w W) => xtable_any g h M W (s.fr0 f) hl)
  have HSS := Lib.hid s
  have HT1 := Lib.hid (And.intro h1 (And.intro h2 hc))
  obtain ⟨T, eT⟩ : ∃ T, ltot M.l = T := ⟨_, rfl⟩
  rw [eT] at c8 hc
  have hd : decide ((t : Int) < 1) = false := decide_eq_false (by omega)
  have hd2 : decide (64 < (t : Int)) = false := decide_eq_false (by omega)
  have hd3 : decide ((1125899906842624 : Int) < (T : Int)) = false := decide_eq_false (by omega)
  clear s eT f1 f2 h1 h2 hc hl
  go_enter Tryz.func47, Tryz.ntmps47
  go_wp2_with fail
  refine (HTA.out _ FW.out).mono ?_
  rintro e w3 ⟨gt, rfl, ht, f3⟩
  have H3 := Lib.hid (And.intro ht f3)
  have k2 := f3.cell HK.out.1 (fun h => h)
  have k3 := f3.cell HK.out.2 (fun h => h)
  have g4 := Fr.alloc S0 w3 (.cells #[.pointer (some ⟨gt, 0, none⟩)] 113)
  have g5 := Fr.alloc S0 (w3.alloc (.cells #[.pointer (some ⟨gt, 0, none⟩)] 113)) (.cells #[.int .i64 0] 3)
  have k4 := g5.cell (g4.cell k2 (fun h => h)) (fun h => h)
  have k5 := g5.cell (g4.cell k3 (fun h => h)) (fun h => h)
  have k6 := g5.cell (new_cell w3 (.pointer (some ⟨gt, 0, none⟩)) 113) (fun h => h)
  have h7 := heap_alloc_new (w3.alloc (.cells #[.pointer (some ⟨gt, 0, none⟩)] 113)) (.cells #[.int .i64 0] 3)
  rw [size_alloc] at h7
  have F5 := Lib.hid (((FW.out.trans0 f3).trans0 g4).trans0 g5)
  have HT3 := Lib.hid ht
  have F35 := Lib.hid (g4.trans0 g5)
  have HSZ : Hid (w.heap.size + 2 ≤ w3.heap.size ∧ ((w3.alloc (.cells #[.pointer (some ⟨gt, 0, none⟩)] 113)).alloc (.cells #[.int .i64 0] 3)).heap.size = w3.heap.size + 2) := Lib.hid (by
    have a1 := f3.size
    rw [size_alloc, size_alloc] at a1
    rw [size_alloc, size_alloc]
    omega)
  have GL := Lib.hid (And.intro HSS.out.lt HSS.out.mp.lt)
  have TL := Lib.hid (show gt < w3.heap.size from ht.lt)
  obtain ⟨W5, eW5⟩ : ∃ W, (w3.alloc (.cells #[.pointer (some ⟨gt, 0, none⟩)] 113)).alloc (.cells #[.int .i64 0] 3) = W := ⟨_, rfl⟩
  have HK5 := Lib.hid (And.intro k4 (And.intro k5 (And.intro k6 h7)))
  rw [eW5] at HK5 F5 F35 HSZ
  have HST : Hid (Calls Tryz.prog 89 #[.pointer (some ⟨g, 0, none⟩), .pointer (some ⟨gt, 0, none⟩), .func (.func 90) #[] #[.pointer (some ⟨w3.heap.size + 1, 0, none⟩), .pointer (some ⟨w.heap.size + 1, 0, none⟩), .pointer (some ⟨w.heap.size, 0, none⟩), .pointer (some ⟨w3.heap.size, 0, none⟩)]] W5 fun e w' => ∃ n p c, e = .returned (.slice p n c) ∧ n ≤ 2000 ∧ StI w' p (stL M (tvH M t) n) ∧ (∀ i, i < n → cumU M (tvH M t) i < ltot M.l) ∧ cumU M (tvH M t) n = ltot M.l ∧ Fr S0 w w') := Lib.hid (by
    obtain ⟨h1, h2, hc⟩ := HT1.out
    obtain ⟨k4, k5, k6, h7⟩ := HK5.out
    have hsz := HSZ.out
    have hgl := GL.out
    have htl := TL.out
    have ht3 := HT3.out
    have hX : ∀ W', Fr (fun b => b = w3.heap.size + 1) W5 W' → HistIs W' g h M := fun W' f' => HSS.out.fr0 (F5.out.trans f' fun j hj e => by omega)
    have hT : ∀ W', Fr (fun b => b = w3.heap.size + 1) W5 W' → TabIs W' gt M.l := fun W' f' => ht3.fr0 (F35.out.trans f' fun j hj e => by omega)
    refine (xsteps_any g h gt 90 (if ltot M.l = 0 then 0 else 16 * t + 1) M W5 (fun b => b = w3.heap.size + 1) _ (tvH M t) (fun j W' => W'.heap[w3.heap.size + 1]? = some (.cells #[.int .i64 (j : Nat)] 3 (0, 0)) ∧ Fr (fun b => b = w3.heap.size + 1) W5 W')
      hX hT (fun b hb => by omega) ⟨h7, Fr.refl _ _⟩ (fun j W1 W' hI f' => ?_) half1_has (fun j W1 hj hI f' => ?_) (fun j _ => tvH_bd HSS.out.good j) (by split <;> omega) (fun j hj => ?_) ?_).mono ?_
    · exact ⟨f'.row hI.1 (by omega), hI.2.trans f' fun j hj e => by omega⟩
    · have hp : 0 < ltot M.l := by
        rcases Nat.eq_zero_or_pos (ltot M.l) with e | e
        · rw [if_pos e] at hj
          omega
        · exact e
      rw [if_neg (by omega)] at hj
      have hq : j / t ≤ 20 := by
        have := Nat.div_le_div_right (c := t) (show j ≤ 16 * t by omega)
        rw [Nat.mul_div_cancel _ h1] at this
        omega
      refine (halve_one g h gt w.heap.size (w.heap.size + 1) w3.heap.size (w3.heap.size + 1) j t M W1 h1 h2 hq (by omega) hp hI.1 fun W' f2 => ?_).mono ?_
      · have f3 := hI.2.trans f2 fun j hj e => e
        exact ⟨f3.cell k5 (by intro e; have e2 : w.heap.size + 1 = w3.heap.size + 1 := e; omega), f3.cell k4 (by intro e; have e2 : w.heap.size = w3.heap.size + 1 := e; omega), f3.cell k6 (by intro e; have e2 : w3.heap.size = w3.heap.size + 1 := e; omega), hX W' f3, hT W' f3⟩
      · rintro e w' ⟨rfl, r7, f2⟩
        exact ⟨rfl, ⟨r7, hI.2.trans f2 fun j hj e => e⟩, f2⟩
    · by_cases e : ltot M.l = 0
      · rw [if_pos e] at hj
        omega
      · exact tvH_up HSS.out.good (by omega) h1 j
    · by_cases e : ltot M.l = 0
      · rw [if_pos e, e]
        rfl
      · rw [if_neg e]
        exact half_end HSS.out.good (by omega) h1 hc _ (Nat.le_refl _)
    · rintro e w' ⟨n, p, c, rfl, a1, a2, a3, a4, f2⟩
      refine ⟨n, p, c, rfl, ?_, a2, a3, a4, F5.out.trans f2 fun j hj e => by omega⟩
      split at a1 <;> omega)
  clear ht f3 k0 k1 c8 HTA g4 g5 k2 k3 k5 h7
  have HW5 := Lib.hid eW5
  clear eW5
  go_wp2_with fail
  rw [HW5.out]
  refine HST.out.mono ?_
  rintro e w6 ⟨n, p, c, rfl, h6⟩
  have H6 := Lib.hid h6
  clear h6
  go_wp2_with fail
  go_ret2
  exact ⟨n, p, c, rfl, H6.out⟩
end
end Go.Proofs.YthfcfmnaiopogaaGreat
