/- What is folded of two lists that were cut, when they come together; when a rank's key is vague. -/
import Derived.Test.YtibgjmlgjmnheaaSpList
namespace Go.Proofs.Ytibgjmlgjmnheaa

theorem bel_put : ∀ (l : List Pr) (k : Int) (n : Nat) (j : Int), bel (lput l k n) j = bel l j + if k < j then n else 0
  | [], k, n, j => by simp [lput, bel]
  | y :: r, k, n, j => by
    have ih := bel_put r k n j
    rw [lput]
    split
    · rw [bel, ih, bel]; omega
    · split
      · rename_i h1 h2
        subst h2
        rw [bel, bel]; simp only
        by_cases e : y.1 < j
        · simp only [if_pos e]; omega
        · simp only [if_neg e]; omega
      · rw [bel]; simp only; omega
theorem bel_puts : ∀ (m l : List Pr) (j : Int), bel (lputs l m) j = bel l j + bel m j
  | [], l, j => rfl
  | x :: m, l, j => by
    rw [show lputs l (x :: m) = lputs (lput l x.1 x.2) m from rfl, bel_puts m, bel_put, bel]; omega
theorem bel_above (l : List Pr) {p q : Int} (h : p < q) : bel l q = upt l p + bel (above l p) q := by
  unfold above
  induction l with
  | nil => rfl
  | cons x r ih =>
    rw [List.filter_cons, upt, bel]
    by_cases e : p < x.1
    · rw [if_pos (c := decide (p < x.1) = true) (by simpa using e), bel, if_neg (show ¬ x.1 ≤ p by omega)]; omega
    · rw [if_neg (c := decide (p < x.1) = true) (by simpa using e), if_pos (show x.1 < q by omega), if_pos (show x.1 ≤ p by omega)]; omega
theorem upt_above (l : List Pr) {p q : Int} (h : p ≤ q) : upt l q = upt l p + upt (above l p) q := by
  unfold above
  induction l with
  | nil => rfl
  | cons x r ih =>
    rw [List.filter_cons, upt, upt]
    by_cases e : p < x.1
    · rw [if_pos (c := decide (p < x.1) = true) (by simpa using e), upt, if_neg (show ¬ x.1 ≤ p by omega)]; omega
    · rw [if_neg (c := decide (p < x.1) = true) (by simpa using e), if_pos (show x.1 ≤ q by omega), if_pos (show x.1 ≤ p by omega)]; omega
/-- what is put to the least key of a cut at q -/
theorem cutA_at {l : List Pr} {m : Nat} {q : Int} (hs : Srt l) (hq : cnt l q ≠ 0) (h : (above l q).length + 1 = m) : cutA l m = bel l q := by
  obtain ⟨z, hz, ez⟩ := cnt_in hq
  obtain ⟨t, u, e⟩ := List.append_of_mem hz
  subst ez
  subst e
  rw [above_parts hs] at h
  have h1 := List.pairwise_append.1 hs
  have h2 := srt_cons.1 h1.2.1
  have hl : (t ++ z :: u).length - m = t.length := by rw [List.length_append, List.length_cons]; omega
  unfold cutA
  rw [hl]
  refine bel_take (fun j hj hji => ?_) fun j hj hji => ?_
  · have e : (t ++ z :: u)[j] = t[j] := List.getElem_append_left hji
    rw [e]
    exact h1.2.2 _ (List.getElem_mem hji) z List.mem_cons_self
  · have hmem : (t ++ z :: u)[j] ∈ z :: u := by
      rw [List.getElem_append_right hji]
      exact List.getElem_mem _
    rcases List.mem_cons.1 hmem with e | e
    · rw [e]; omega
    · have := h2.1 _ e; omega
/-- the least key -/
def hk (l : List Pr) : Int := match l with
  | [] => 0
  | x :: _ => x.1
/-- where a list is cut lies no higher than where one is that has its keys, too -/
theorem cut_low {a u : List Pr} {m : Nat} {p q : Int} (ha : Srt a) (hu : Srt u) (hin : ∀ x ∈ a, ∃ y ∈ u, y.1 = x.1) (hq : (above u q).length + 1 = m) (h1 : cnt a p ≠ 0) (h2 : (above a p).length + 1 = m) : p ≤ q := by
  rcases (by omega : p ≤ q ∨ q < p) with h | h
  · exact h
  · obtain ⟨z, hz, ez⟩ := cnt_in h1
    have hs2 : Srt (z :: above a p) := srt_cons.2 ⟨fun y hy => by have := (above_mem.1 hy).2; omega, above_srt ha⟩
    have := len_sub (u := above u q) hs2 (above_srt hu) fun x hx => by
      rcases List.mem_cons.1 hx with rfl | hx
      · obtain ⟨y, hy, e⟩ := hin x hz
        exact ⟨y, above_mem.2 ⟨hy, by omega⟩, e⟩
      · obtain ⟨hx1, hx2⟩ := above_mem.1 hx
        obtain ⟨y, hy, e⟩ := hin x hx1
        exact ⟨y, above_mem.2 ⟨hy, by omega⟩, e⟩
    rw [List.length_cons] at this
    omega
/-- a fold counts just where its key is the cut's -/
theorem fold_part {a u : List Pr} {m : Nat} {q k : Int} (ha : Srt a) (pa : Pos a) (hu : Srt u) (hm : 1 ≤ m) (hin : ∀ x ∈ a, ∃ y ∈ u, y.1 = x.1) (hq : (above u q).length + 1 = m) (hk0 : cutA a m ≠ 0 → k = hk (cutN a m)) :
    bel a q = bel (cutN a m) q + if k = q then cutA a m else 0 := by
  by_cases h : a.length ≤ m
  · rw [cut_none h, cutA_none h, ite_self]; omega
  · obtain ⟨p, h1, h2⟩ := cut_key ha pa hm (by omega)
    have hpq := cut_low ha hu hin hq h1 h2
    have e := cut_at ha h1 h2
    have eA := cutA_at ha h1 h2
    have hk1 : cutA a m ≠ 0 → k = p := fun h => by rw [hk0 h, e]; rfl
    rcases (by omega : p = q ∨ p < q) with rfl | hlt
    · have e0 : bel (cutN a m) p = 0 := by
        rw [e]
        refine bel_zero fun x hx => ?_
        rcases List.mem_cons.1 hx with rfl | hx
        · exact Int.le_refl _
        · have := (above_mem.1 hx).2; omega
      rw [e0, ← eA]
      by_cases h0 : cutA a m = 0
      · rw [h0, ite_self]
      · rw [if_pos (hk1 h0)]; omega
    · have e0 : bel (cutN a m) q = upt a p + bel (above a p) q := by rw [e, bel]; simp only; rw [if_pos hlt]
      rw [e0, ← bel_above a hlt]
      by_cases h0 : cutA a m = 0
      · rw [h0, ite_self]; omega
      · rw [if_neg (by have := hk1 h0; omega)]; omega
/-- two lists that were cut, with what is folded in each, come together and are cut -/
theorem fold_step {a b : List Pr} {m : Nat} {k j : Int} (ha : Srt a) (pa : Pos a) (hb : Srt b) (pb : Pos b) (hm : 1 ≤ m) (ka : cutA a m ≠ 0 → k = hk (cutN a m)) (kb : cutA b m ≠ 0 → j = hk (cutN b m)) :
    cutA (lputs a b) m = cutA (lputs (cutN a m) (cutN b m)) m + (if k = hk (cutN (lputs a b) m) then cutA a m else 0) + (if j = hk (cutN (lputs a b) m) then cutA b m else 0) := by
  have hu := putAll_srt ha b
  have pu := putAll_pos pa pb
  have ina : ∀ x ∈ a, ∃ y ∈ lputs a b, y.1 = x.1 := fun x hx => cnt_in (by rw [cnt_putAll _ _ _ ha hb]; have := cnt_ne ha pa hx; omega)
  have inb : ∀ x ∈ b, ∃ y ∈ lputs a b, y.1 = x.1 := fun x hx => cnt_in (by rw [cnt_putAll _ _ _ ha hb]; have := cnt_ne hb pb hx; omega)
  by_cases h : (lputs a b).length < m
  · have h1 := len_sub ha hu ina
    have h2 := len_sub hb hu inb
    rw [cut_none (l := a) (by omega), cut_none (l := b) (by omega), cutA_none (l := a) (by omega), cutA_none (l := b) (by omega), cutA_none (l := lputs a b) (by omega), ite_self, ite_self]
  · obtain ⟨q, hq, hl⟩ := cut_key hu pu hm (by omega)
    have fa := fold_part ha pa hu hm ina hl ka
    have fb := fold_part hb pb hu hm inb hl kb
    obtain ⟨a1, a2⟩ := cut_beside ha pa hu hm ina hl
    obtain ⟨b1, b2⟩ := cut_beside hb pb hu hm inb hl
    have sa := cut_srt ha pa hm
    have sb := cut_srt hb pb hm
    have hv := putAll_srt sa (cutN b m)
    have pv := putAll_pos (cut_pos ha pa hm) (cut_pos hb pb hm)
    have hqv : cnt (lputs (cutN a m) (cutN b m)) q ≠ 0 := by
      rw [cnt_putAll _ _ _ ha hb] at hq
      rw [cnt_putAll _ _ _ sa sb]
      rcases (by omega : cnt a q ≠ 0 ∨ cnt b q ≠ 0) with h | h
      · have := a2 h; omega
      · have := b2 h; omega
    have ea : above (lputs (cutN a m) (cutN b m)) q = above (lputs a b) q := ext_cnt (above_srt hv) (above_srt hu) (above_pos pv) (above_pos pu) fun j => by
      rw [above_cnt, above_cnt]
      by_cases hj : q < j
      · rw [if_pos hj, if_pos hj, cnt_putAll _ _ _ sa sb, cnt_putAll _ _ _ ha hb, a1 j hj, b1 j hj]
      · rw [if_neg hj, if_neg hj]
    have eh : hk (cutN (lputs a b) m) = q := by rw [cut_at hu hq hl]; rfl
    rw [eh, cutA_at hu hq hl, cutA_at hv hqv (by rw [ea]; exact hl), bel_puts, bel_puts, fa, fb]
    omega
theorem cut_one (x : Pr) {m : Nat} (hm : 1 ≤ m) : cutN [x] m = [x] ∧ cutA [x] m = 0 := ⟨cut_none hm, cutA_none hm⟩
theorem puts_one (l : List Pr) (k : Int) (n : Nat) : lputs l [(k, n)] = lput l k n := rfl
theorem srt_one (x : Pr) : Srt [x] := List.pairwise_singleton _ _
/-- one more key is counted, and the list is cut -/
theorem fold_add {a : List Pr} {m n : Nat} {k j : Int} (ha : Srt a) (pa : Pos a) (hn : 0 < n) (hm : 1 ≤ m) (ka : cutA a m ≠ 0 → j = hk (cutN a m)) :
    cutN (lput (cutN a m) k n) m = cutN (lput a k n) m ∧ cutA (lput a k n) m = cutA (lput (cutN a m) k n) m + (if j = hk (cutN (lput a k n) m) then cutA a m else 0) := by
  have pb : Pos [(k, n)] := fun x hx => by rw [List.mem_singleton.1 hx]; exact hn
  obtain ⟨e1, e2⟩ := cut_one (k, n) hm
  have h1 := cut_merge ha pa (srt_one (k, n)) pb hm
  have h2 := fold_step (j := 0) ha pa (srt_one (k, n)) pb hm ka fun h => absurd e2 h
  rw [e1] at h1 h2
  rw [e2, ite_self] at h2
  exact ⟨h1, h2⟩

theorem hk_key {l : List Pr} (hp : Pos l) : keyW l 1 = hk l := by
  cases l with
  | nil => rfl
  | cons x r =>
    have := (pos_cons.1 hp).1
    rw [keyW, if_pos (by omega)]
    rfl
theorem above_len {l : List Pr} {p q : Int} (hs : Srt l) (h : p ≤ q) : (above l q).length ≤ (above l p).length :=
  len_sub (above_srt hs) (above_srt hs) fun x hx => ⟨x, above_mem.2 ⟨(above_mem.1 hx).1, by have := (above_mem.1 hx).2; omega⟩, rfl⟩
theorem upt_mono (l : List Pr) {p q : Int} (h : p ≤ q) : upt l p ≤ upt l q := by rw [upt_above l h]; omega
/-- the key that is kept of a rank, beside the rank's own -/
theorem kept_key {l : List Pr} {m r : Nat} (hs : Srt l) (hp : Pos l) (hm : 1 ≤ m) (h1 : 1 ≤ r) (h2 : r ≤ ltot l) :
    ((cutA l m ≠ 0 ∧ keyW (cutN l m) r = hk (cutN l m)) ↔ (m < l.length ∧ m ≤ (above l (keyW l r)).length + 1)) ∧
    (¬ (cutA l m ≠ 0 ∧ keyW (cutN l m) r = hk (cutN l m)) → keyW (cutN l m) r = keyW l r) := by
  by_cases h : l.length ≤ m
  · rw [cut_none h, cutA_none h]
    exact ⟨⟨fun h => absurd rfl h.1, fun h' => by omega⟩, fun _ => rfl⟩
  · obtain ⟨q, hq, hl⟩ := cut_key hs hp hm (by omega)
    have e := cut_at hs hq hl
    have eA := cutA_at hs hq hl
    obtain ⟨⟨z, hz, ez⟩, k1, k2⟩ := keyW_rank hs h1 h2
    have hA : cutA l m ≠ 0 := by
      rw [eA]
      intro h0
      have hall : ∀ x ∈ l, q ≤ x.1 := fun x hx => by
        rcases (by omega : q ≤ x.1 ∨ x.1 < q) with h | h
        · exact h
        · have h3 : cnt l x.1 ≤ upt l x.1 := by rw [upt_bel l hs]; omega
          have h4 := bel_upt l h
          have h5 := cnt_ne hs hp hx
          omega
      have hlen := len_sub (u := (q, 1) :: above l q) hs (srt_cons.2 ⟨fun y hy => (above_mem.1 hy).2, above_srt hs⟩) fun x hx => by
        have := hall x hx
        rcases (by omega : x.1 = q ∨ q < x.1) with h | h
        · exact ⟨_, List.mem_cons_self, h.symm⟩
        · exact ⟨x, List.mem_cons_of_mem _ (above_mem.2 ⟨hx, h⟩), rfl⟩
      rw [List.length_cons] at hlen
      omega
    have eh : hk (cutN l m) = q := by rw [e]; rfl
    have hs3 := cut_srt hs hp hm
    have hp3 := cut_pos hs hp hm
    have ht3 := cut_tot hs hp hm
    obtain ⟨⟨y, hy, ey⟩, c1, c2⟩ := keyW_rank hs3 h1 (by rw [ht3]; exact h2)
    rw [eh]
    have hge : q ≤ keyW (cutN l m) r := by
      rw [← ey]
      rw [e] at hy
      rcases List.mem_cons.1 hy with rfl | hy
      · exact Int.le_refl _
      · have := (above_mem.1 hy).2; omega
    have hiff : keyW (cutN l m) r = q ↔ keyW l r ≤ q := by
      constructor
      · intro hk1
        rcases (by omega : keyW l r ≤ q ∨ q < keyW l r) with h | h
        · exact h
        · have h3 := cut_upt (m := m) hs hp hm q
          rw [hk1] at c2
          have h4 := bel_upt l h
          omega
      · intro hk1
        rcases (by omega : keyW (cutN l m) r = q ∨ q < keyW (cutN l m) r) with h | h
        · exact h
        · have h3 := bel_upt (cutN l m) h
          have h4 : upt (cutN l m) q = upt l q := by
            rw [e, upt, upt_zero fun x hx => (above_mem.1 hx).2]
            simp
          have h5 := upt_mono l hk1
          omega
    refine ⟨⟨fun hv => ⟨by omega, ?_⟩, fun hv => ⟨hA, hiff.2 ?_⟩⟩, fun hv => ?_⟩
    · have := above_len hs (hiff.1 hv.2); omega
    · rcases (by omega : keyW l r ≤ q ∨ q < keyW l r) with h | h
      · exact h
      · have h3 := len_sub (u := above l q) (a := z :: above l (keyW l r)) (srt_cons.2 ⟨fun y hy => by have := (above_mem.1 hy).2; omega, above_srt hs⟩) (above_srt hs) fun x hx => by
          rcases List.mem_cons.1 hx with rfl | hx
          · exact ⟨x, above_mem.2 ⟨hz, by omega⟩, rfl⟩
          · exact ⟨x, above_mem.2 ⟨(above_mem.1 hx).1, by have := (above_mem.1 hx).2; omega⟩, rfl⟩
        rw [List.length_cons] at h3
        omega
    · have hne : q < keyW (cutN l m) r := by
        rcases (by omega : keyW (cutN l m) r = q ∨ q < keyW (cutN l m) r) with h | h
        · exact absurd ⟨hA, h⟩ hv
        · exact h
      have g1 : bel (cutN l m) (keyW (cutN l m) r) = bel l (keyW (cutN l m) r) := by
        rw [bel_above l hne]
        conv => lhs; arg 1; rw [e]
        rw [bel]; simp only; rw [if_pos hne]
      have g2 : upt (cutN l m) (keyW (cutN l m) r) = upt l (keyW (cutN l m) r) := by
        rw [upt_above l (Int.le_of_lt hne)]
        conv => lhs; arg 1; rw [e]
        rw [upt]; simp only; rw [if_pos (Int.le_of_lt hne)]
      exact (keyW_only hs h1 h2 (by omega) (by omega)).symm
/-- the least key of a list that was cut is above some key -/
theorem hk_above {l : List Pr} {m : Nat} (hs : Srt l) (hp : Pos l) (hm : 1 ≤ m) (h : cutA l m ≠ 0) : (cutN l m).length = m ∧ (∃ x ∈ l, x.1 < hk (cutN l m)) ∧ ∃ x t, cutN l m = x :: t ∧ x.1 = hk (cutN l m) ∧ cutA l m < x.2 := by
  have hlt : m < l.length := by
    rcases (by omega : l.length ≤ m ∨ m < l.length) with h' | h'
    · exact absurd (cutA_none h') h
    · exact h'
  obtain ⟨q, hq, hl⟩ := cut_key hs hp hm (by omega)
  have e := cut_at hs hq hl
  have eA := cutA_at hs hq hl
  have eh : hk (cutN l m) = q := by rw [e]; rfl
  rw [eh]
  refine ⟨by rw [e, List.length_cons]; exact hl, ?_, (q, upt l q), above l q, e, rfl, by rw [eA, upt_bel l hs]; simp only; omega⟩
  rcases Classical.em (∃ x ∈ l, x.1 < q) with h' | h'
  · exact h'
  · rw [eA] at h
    exact absurd (bel_zero fun x hx => by
      rcases (by omega : q ≤ x.1 ∨ x.1 < q) with h3 | h3
      · exact h3
      · exact absurd ⟨x, hx, h3⟩ h') h
end Go.Proofs.Ytibgjmlgjmnheaa
