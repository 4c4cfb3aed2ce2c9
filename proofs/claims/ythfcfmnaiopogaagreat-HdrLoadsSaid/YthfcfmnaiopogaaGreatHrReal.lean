/- The landed histograms are what the laws ask. -/
import Derived.Test.YthfcfmnaiopogaaGreatHrTk2
import Derived.Test.YthfcfmnaiopogaaGreatHrNew
import Derived.Test.YthfcfmnaiopogaaGreatHrPair
namespace Go.Proofs.YthfcfmnaiopogaaGreat
open Go.RowKit Go.ChangeMaps

/-- block g is the histogram M, its blocks are C -/
def IsX (W : World) (g : Nat) (C : Nat → Prop) (M : Hm) : Prop := ∃ h, HistIs W g h M ∧ M.l.length ≤ 100000 ∧ ∀ b, C b ↔ b = g ∨ b = h
theorem IsX.of {W : World} {g h : Nat} {M : Hm} (s : HistIs W g h M) (hl : M.l.length ≤ 100000) : IsX W g (fun k => k = g ∨ k = h) M := ⟨h, s, hl, fun _ => Iff.rfl⟩

theorem keyW_one {t : Pr} {r : List Pr} (hp : Pos (t :: r)) : keyW (t :: r) 1 = t.1 := by
  have := (pos_cons.1 hp).1
  rw [keyW, if_pos (by omega)]
theorem keyW_last : ∀ {r : List Pr} {t : Pr}, Pos (r ++ [t]) → keyW (r ++ [t]) (ltot (r ++ [t])) = t.1
  | [], t, _ => by simp [keyW, ltot]
  | x :: r, t, h => by
    have h1 := pos_cons.1 (show Pos (x :: (r ++ [t])) from h)
    have ih := keyW_last h1.2
    have h3 : 0 < ltot (r ++ [t]) := by
      rw [tot_app]
      have := h1.2 t (by simp)
      simp only [ltot]
      omega
    rw [List.cons_append, keyW, ltot, if_neg (by omega), show x.2 + ltot (r ++ [t]) - x.2 = ltot (r ++ [t]) by omega]
    exact ih
theorem rkE_some {a d n : Nat} (hd : 0 < d) (h : a ≤ d) (hn : 0 < n) : rkE a d n = 0 ∧ rkR a d n = rnk a d n := by
  unfold rkE rkR
  rw [if_neg (by omega), if_neg (by omega), if_neg (by omega), if_neg (by omega)]
  exact ⟨rfl, rfl⟩
theorem tot_pos {l : List Pr} (hp : Pos l) (h : l ≠ []) : 0 < ltot l := by
  cases l with
  | nil => exact absurd rfl h
  | cons x r => have := (pos_cons.1 hp).1; rw [ltot]; omega

theorem readsX : HdrReads IsX where
  fr := fun {W W' g C M S} ⟨h, s, hl, hc⟩ f ho => ⟨h, s.fr f (ho g ((hc g).2 (.inl rfl))) (ho h ((hc h).2 (.inr rfl))), hl, hc⟩
  lt := fun {W g C M} ⟨h, s, hl, hc⟩ b hb => by
    rcases (hc b).1 hb with rfl | rfl
    · exact s.lt
    · exact s.mp.lt
  self := fun {W g C M} ⟨h, s, hl, hc⟩ => (hc g).2 (.inl rfl)
  good := fun {W g C M} ⟨h, s, hl, hc⟩ => s.good
  shape := fun {W g C M} ⟨h, s, hl, hc⟩ => xshape_any g h M W s
  grows := fun {W g C M} ⟨h, s, hl, hc⟩ => xgrows_any g h M W s
  buckets := fun {W g C M} ⟨h, s, hl, hc⟩ => xbuckets_any g h M W s
  reach := fun {W g C M} ⟨h, s, hl, hc⟩ => xreach_any g h M W s
  total := fun {W g C M} ⟨h, s, hl, hc⟩ => xtotal_any g h M W s
  pairs := fun {W g C M} ⟨h, s, hl, hc⟩ => xpairs_any g h M W s hl
  least_no := fun {W g C M} ⟨h, s, hl, hc⟩ h0 => by
    have h1 := xleast_raw g h M W s hl
    rw [show endV M M.least 0 1 = 0 by unfold endV; rw [h0]; rfl, show rkE 0 1 (ltot M.l) = 8 by rw [h0]; rfl] at h1
    exact h1
  least := fun {W g C M} ⟨h, s, hl, hc⟩ t r h0 => by
    have h1 := xleast_raw g h M W s hl
    obtain ⟨e1, e2⟩ := rkE_some (a := 0) (d := 1) (by decide) (by decide) (tot_pos s.good.pos (by rw [h0]; simp))
    rw [show endV M M.least 0 1 = M.least t.1 by unfold endV; rw [if_pos e1, e2, rnk_zero, h0, keyW_one (by rw [← h0]; exact s.good.pos)], e1] at h1
    exact h1
  most_no := fun {W g C M} ⟨h, s, hl, hc⟩ h0 => by
    have h1 := xmost_raw g h M W s hl
    rw [show endV M M.most 1 1 = 0 by unfold endV; rw [h0]; rfl, show rkE 1 1 (ltot M.l) = 8 by rw [h0]; rfl] at h1
    exact h1
  most := fun {W g C M} ⟨h, s, hl, hc⟩ t r h0 => by
    have h1 := xmost_raw g h M W s hl
    have hp := tot_pos s.good.pos (by rw [h0]; simp)
    obtain ⟨e1, e2⟩ := rkE_some (a := 1) (d := 1) (by decide) (by decide) hp
    rw [show endV M M.most 1 1 = M.most t.1 by unfold endV; rw [if_pos e1, e2, rnk_full (by decide) hp, h0, keyW_last (by rw [← h0]; exact s.good.pos)], e1] at h1
    exact h1

theorem turnX {W w' : World} {g h : Nat} {C : Nat → Prop} {M' : Hm} (hc : ∀ b, C b ↔ b = g ∨ b = h) (s : HistIs w' g h M') (hl : M'.l.length ≤ 100000) (f : Fr (fun k => k = g ∨ k = h) W w') : HTurn IsX W w' g C M' :=
  ⟨C, ⟨h, s, hl, hc⟩, f.mono fun j _ hj => (hc j).2 hj, fun _ hb => .inl hb⟩
theorem record_len (M : Hm) (v : Int) (n : Nat) : (M.record v n).l.length ≤ M.l.length + 1 := by
  unfold Hm.record
  split
  · exact len_put_le _ _ _
  · omega
theorem counts_len (M : Hm) (v e n : Nat) : ∀ j, (M.counts v e n j).l.length ≤ M.l.length + (j + 1)
  | 0 => len_put_le _ _ _
  | j + 1 => by
    have h1 := counts_len M v e n j
    have h2 : ((M.counts v e n j).count (v - (j + 1) * e) n).l.length ≤ (M.counts v e n j).l.length + 1 := len_put_le _ _ _
    rw [Hm.counts]
    omega
theorem correct_len (M : Hm) (v : Int) (n : Nat) (x : Int) : (M.correct v n x).l.length ≤ M.l.length + 4097 := by
  unfold Hm.correct
  split
  · rename_i h
    have h1 : ¬ 4096 < Hm.more v x := fun hm => by unfold Hm.corE at h; rw [if_pos hm] at h; omega
    have := counts_len M v.toNat x.toNat n (Hm.more v x)
    omega
  · omega
theorem take_len (M G : Hm) : (M.take G).l.length ≤ M.l.length + G.l.length := by
  unfold Hm.take
  split
  · exact len_puts_le _ _
  · omega
theorem doesX : HdrDoes IsX where
  reads := readsX
  record := fun {W g C M} ⟨h, s, _, hc⟩ v n hv0 hv hn hl2 => (xrecord_any g h M W s v n hv0 hv hn).mono fun e w' he => ⟨he.1, turnX hc he.2.1 (by have := record_len M v n; omega) he.2.2⟩
  correct := fun {W g C M} ⟨h, s, _, hc⟩ v x n hv0 hv hx hx2 hn hl2 => (xcorrect_any g h M W s v x n hv0 hv hx hx2 hn).mono fun e w' he => ⟨he.1, turnX hc he.2.1 (by have := correct_len M v n x; omega) he.2.2⟩
  takeNil := fun {W g C M} _ => xtake_nil g W
  takeSelf := fun {W g C M} ⟨h, s, hl, hc⟩ hl2 => (xtake_any g h g h M M W s s hl).mono fun e w' he => ⟨he.1, turnX hc he.2.1 (by have := take_len M M; omega) he.2.2⟩
  take := fun {W g C M g2 C2 M2} ⟨h, s, _, hc⟩ ⟨h2, s2, hl2, _⟩ _ hl3 => (xtake_any g h g2 h2 M M2 W s s2 hl2).mono fun e w' he => ⟨he.1, turnX hc he.2.1 (by have := take_len M M2; omega) he.2.2⟩
theorem newsX : HdrNews IsX where
  does := doesX
  no := fun lo hi d gr W h _ hh => xnew_no lo hi d gr W h hh
  big := fun l h D gr W h1 h5 h0 hh hb hs => xnew_big l h D gr W h1 h5 h0 hh hb hs
  yes := fun l h D gr W h1 h5 h0 hh hb hs => (xnew_yes l h D gr W h1 h5 h0 hh hb hs).mono fun e w' ⟨g, hm, he, s, hg, hm2, f⟩ => ⟨g, _, he, .of s (by simp [Hm.new]), (fun y hy => hy.elim (fun e => e ▸ hg) fun e => e ▸ hm2), f⟩
end Go.Proofs.YthfcfmnaiopogaaGreat
