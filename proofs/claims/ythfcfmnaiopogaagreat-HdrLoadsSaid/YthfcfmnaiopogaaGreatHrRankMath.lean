/- The law's value of a rank lies in the cell of the document's. -/
import Derived.Test.YthfcfmnaiopogaaGreatHrRanked
namespace Go.Proofs.YthfcfmnaiopogaaGreat
open Go.RowKit

theorem bst_le (vs : List Int) (ns : List Nat) (r m : Nat) : ∀ i j, j < i → 0 ≤ vs.getD j 0 → r ≤ uptV vs ns (vs.getD j 0) m → 0 ≤ bst vs ns r m i ∧ bst vs ns r m i ≤ vs.getD j 0
  | 0, j, h, _, _ => by omega
  | i + 1, j, h, h0, hr => by
    rw [bst]
    by_cases e : j = i
    · subst e
      split
      · omega
      · first
          | omega
          | (rw [if_pos hr]; omega)
    · have ih := bst_le vs ns r m i j (by omega) h0 hr
      split
      · exact ih
      · split <;> omega
theorem bst_in (vs : List Int) (ns : List Nat) (r m : Nat) : ∀ i, 0 ≤ bst vs ns r m i → ∃ j, j < i ∧ bst vs ns r m i = vs.getD j 0 ∧ r ≤ uptV vs ns (vs.getD j 0) m
  | 0, h => by simp [bst] at h
  | i + 1, h => by
    rw [bst] at h ⊢
    split at h
    · rename_i hc
      rw [if_pos hc]
      obtain ⟨j, h1, h2, h3⟩ := bst_in vs ns r m i h
      exact ⟨j, by omega, h2, h3⟩
    · rename_i hc
      rw [if_neg hc]
      split at h
      · rename_i hd
        rw [if_pos hd]
        exact ⟨i, by omega, rfl, hd⟩
      · rename_i hd
        rw [if_neg hd]
        obtain ⟨j, h1, h2, h3⟩ := bst_in vs ns r m i h
        exact ⟨j, by omega, h2, h3⟩
theorem upt_put : ∀ (l : List Pr) (k : Int) (n : Nat) (j : Int), upt (lput l k n) j = upt l j + if k ≤ j then n else 0
  | [], k, n, j => by simp [lput, upt]
  | x :: r, k, n, j => by
    rw [lput]
    split
    · simp only [upt, upt_put r k n j]; omega
    · split
      · rename_i h
        simp only [upt, h]
        split <;> omega
      · simp only [upt]; omega
/-- how much the first j values count in cells up to K -/
def uptK (u m : Nat) (vs : List Int) (ns : List Nat) (K : Int) : Nat → Nat
  | 0 => 0
  | j + 1 => uptK u m vs ns K j + if 0 ≤ vs.getD j 0 ∧ (idx u m (vs.getD j 0).toNat : Int) ≤ K then wt ns j else 0
theorem recs_same (N : Hm) (vs : List Int) (ns : List Nat) : ∀ i, (recs N vs ns i).u = N.u ∧ (recs N vs ns i).m = N.m ∧ (recs N vs ns i).gr = N.gr ∧ ltot (recs N vs ns i).l ≤ ltot N.l + 1000 * i
  | 0 => ⟨rfl, rfl, rfl, Nat.le_refl _⟩
  | i + 1 => by
    obtain ⟨a, b, c, d⟩ := recs_same N vs ns i
    have hw := wt_bd ns i
    rw [recs]
    unfold Hm.record
    split
    · refine ⟨a, b, c, ?_⟩
      rw [Hm.count_tot]
      omega
    · exact ⟨a, b, c, by omega⟩
theorem upt_recs (N : Hm) (hg : N.gr = true) (hn : N.l = []) (vs : List Int) (ns : List Nat) (K : Int) : ∀ i, i ≤ 1000000 → upt (recs N vs ns i).l K = uptK N.u N.m vs ns K i
  | 0, _ => by simp [recs, hn, upt, uptK]
  | i + 1, hi => by
    have ih := upt_recs N hg hn vs ns K i (by omega)
    obtain ⟨a, b, c, d⟩ := recs_same N vs ns i
    have hw := wt_bd ns i
    rw [hn, show ltot ([] : List Pr) = 0 from rfl] at d
    have hck : (recs N vs ns i).check (vs.getD i 0) (wt ns i) = if vs.getD i 0 < 0 then 5 else 0 := by
      unfold Hm.check
      rw [if_neg (show ¬ wt ns i = 0 by omega), c, hg]
      by_cases hv : vs.getD i 0 < 0
      · rw [if_pos (Or.inl hv), if_pos hv]
      · rw [if_neg (fun h => h.elim hv (fun h => Bool.noConfusion h.1)), if_neg hv, if_neg (by omega)]
    rw [recs, uptK, ← ih]
    unfold Hm.record
    rw [hck]
    by_cases hv : vs.getD i 0 < 0
    · rw [if_pos hv, if_neg (show ¬ (5 = 0) by decide), if_neg (fun h => by omega)]
      rfl
    · rw [if_neg hv, if_pos rfl]
      simp only [Hm.count, upt_put, a, b]
      congr 1
      by_cases hk : (idx N.u N.m (vs.getD i 0).toNat : Int) ≤ K
      · rw [if_pos hk, if_pos ⟨by omega, hk⟩]
      · rw [if_neg hk, if_neg (fun h => hk h.2)]
theorem uptV_le_K (u m : Nat) (hm : 1 ≤ m) (vs : List Int) (ns : List Nat) (x : Int) (hx : x < 18446744073709551616) : ∀ j, uptV vs ns x j ≤ uptK u m vs ns (idx u m x.toNat : Nat) j
  | 0 => Nat.le_refl _
  | j + 1 => by
    have ih := uptV_le_K u m hm vs ns x hx j
    rw [uptV, uptK]
    by_cases h : 0 ≤ vs.getD j 0 ∧ vs.getD j 0 ≤ x
    · have := idx_mono u m (vs.getD j 0).toNat x.toNat hm (by omega) (by omega)
      rw [if_pos h, if_pos ⟨h.1, by omega⟩]
      omega
    · rw [if_neg h]
      omega
theorem uptK_le_V (u m : Nat) (vs : List Int) (ns : List Nat) (K x : Int) : ∀ j, (∀ k, k < j → 0 ≤ vs.getD k 0 → (idx u m (vs.getD k 0).toNat : Int) ≤ K → vs.getD k 0 ≤ x) → uptK u m vs ns K j ≤ uptV vs ns x j
  | 0, _ => Nat.le_refl _
  | j + 1, h => by
    have ih := uptK_le_V u m vs ns K x j (fun k hk => h k (by omega))
    rw [uptV, uptK]
    by_cases hc : 0 ≤ vs.getD j 0 ∧ (idx u m (vs.getD j 0).toNat : Int) ≤ K
    · rw [if_pos hc, if_pos ⟨hc.1, h j (by omega) hc.1 hc.2⟩]
      omega
    · rw [if_neg hc]
      omega
/-- the greatest of those whose cell is not beyond K -/
theorem best_K (u m : Nat) (vs : List Int) (ns : List Nat) (K : Int) : ∀ j, 0 < uptK u m vs ns K j → ∃ i, i < j ∧ 0 ≤ vs.getD i 0 ∧ (idx u m (vs.getD i 0).toNat : Int) ≤ K ∧ ∀ k, k < j → 0 ≤ vs.getD k 0 → (idx u m (vs.getD k 0).toNat : Int) ≤ K → vs.getD k 0 ≤ vs.getD i 0
  | 0, h => by simp [uptK] at h
  | j + 1, h => by
    rw [uptK] at h
    by_cases hc : 0 ≤ vs.getD j 0 ∧ (idx u m (vs.getD j 0).toNat : Int) ≤ K
    · by_cases h0 : 0 < uptK u m vs ns K j
      · obtain ⟨i, h1, h2, h3, h4⟩ := best_K u m vs ns K j h0
        by_cases hij : vs.getD j 0 ≤ vs.getD i 0
        · refine ⟨i, by omega, h2, h3, fun k hk a b => ?_⟩
          by_cases e : k = j
          · rw [e]; exact hij
          · exact h4 k (by omega) a b
        · refine ⟨j, by omega, hc.1, hc.2, fun k hk a b => ?_⟩
          by_cases e : k = j
          · rw [e]; exact Int.le_refl _
          · have := h4 k (by omega) a b
            omega
      · refine ⟨j, by omega, hc.1, hc.2, fun k hk a b => ?_⟩
        by_cases e : k = j
        · rw [e]; exact Int.le_refl _
        · exfalso
          apply h0
          have hkj : k < j := by omega
          clear h h0 hc hk e
          induction j with
          | zero => omega
          | succ j ih =>
            rw [uptK]
            by_cases e : k = j
            · have := wt_bd ns j
              rw [← e, if_pos ⟨a, b⟩, e]
              omega
            · have := ih (by omega)
              omega
    · rw [if_neg hc] at h
      obtain ⟨i, h1, h2, h3, h4⟩ := best_K u m vs ns K j (by omega)
      refine ⟨i, by omega, h2, h3, fun k hk a b => ?_⟩
      by_cases e : k = j
      · rw [e] at a b
        exact absurd ⟨a, b⟩ hc
      · exact h4 k (by omega) a b
/-- the law's value lies in the rank's cell -/
theorem bst_key (N : Hm) (hg : N.gr = true) (hn : N.l = []) (hm : 1 ≤ N.m) (vs : List Int) (ns : List Nat) (hvb : ∀ v ∈ vs, -9223372036854775808 ≤ v ∧ v ≤ 9223372036854775807) (T : Nat) (hT : T ≤ 40) (r : Nat) (hs : Srt (recs N vs ns T).l) (h1 : 1 ≤ r) (h2 : r ≤ ltot (recs N vs ns T).l) :
    0 ≤ bst vs ns r T T ∧ (idx N.u N.m (bst vs ns r T T).toNat : Int) = keyW (recs N vs ns T).l r := by
  obtain ⟨-, hb, hu⟩ := keyW_rank hs h1 h2
  have hbd := bst_bd vs ns r T hvb T
  obtain ⟨K, eK⟩ : ∃ K, keyW (recs N vs ns T).l r = K := ⟨_, rfl⟩
  rw [eK] at hb hu ⊢
  rw [upt_recs N hg hn vs ns K T (by omega)] at hu
  obtain ⟨i, i1, i2, i3, i4⟩ := best_K N.u N.m vs ns K T (by omega)
  have hle := uptK_le_V N.u N.m vs ns K _ T i4
  obtain ⟨b0, b1⟩ := bst_le vs ns r T T i i1 i2 (by omega)
  refine ⟨b0, ?_⟩
  have hx : vs.getD i 0 < 18446744073709551616 := by
    by_cases hi : i < vs.length
    · have := hvb _ (List.getElem_mem hi)
      simp [hi]; omega
    · simp [List.getD, hi]
  have m1 := idx_mono N.u N.m (bst vs ns r T T).toNat (vs.getD i 0).toNat hm (by omega) (by omega)
  obtain ⟨j, j1, j2, j3⟩ := bst_in vs ns r T T b0
  rw [← j2] at j3
  have hk := uptV_le_K N.u N.m hm vs ns (bst vs ns r T T) (by omega) T
  rw [← upt_recs N hg hn vs ns _ T (by omega)] at hk
  by_cases hlt : (idx N.u N.m (bst vs ns r T T).toNat : Int) < K
  · have := bel_upt (recs N vs ns T).l hlt
    omega
  · omega

/-- the greatest value of a value's cell is as near as the digits say -/
theorem most_near (M : Hm) (v d : Nat) (hm : 1 ≤ M.m) (hd : d ≤ 2 ^ (M.m - 1)) (d0 : 0 < d) (h : v < 18446744073709551616) :
    v ≤ M.most (idx M.u M.m v : Nat) ∧ (M.most (idx M.u M.m v : Nat) - v < 2 ^ M.u ∨ M.most (idx M.u M.m v : Nat) - v ≤ (v - 1) / d) := by
  have e : M.most (idx M.u M.m v : Nat) = beg M.u M.m v + 2 ^ hwid M.u M.m v - 1 := by
    have := two_pos (hwid M.u M.m v)
    unfold Hm.most
    rw [Int.toNat_natCast, vof_idx M.u M.m v hm h, ibk_idx M.u M.m v hm h]
    rw [hwid] at this ⊢
    omega
  have hb := beg_gt M.u M.m v
  rw [e]
  refine ⟨by omega, ?_⟩
  by_cases h0 : 0 < bkt (M.u + M.m) v
  · exact .inr (near_far M.u M.m v d hm hd d0 h h0)
  · exact .inl (near_first M.u M.m v (by omega))
end Go.Proofs.YthfcfmnaiopogaaGreat
