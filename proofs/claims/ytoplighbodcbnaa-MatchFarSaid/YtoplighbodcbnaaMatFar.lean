/- A text whose ends are the same, far from each other. -/
import Derived.Test.YtoplighbodcbnaaMatLawFinds
namespace Go.Proofs.Ytoplighbodcbnaa
open Go.RowKit Go.MapKept

/-- b, then bytes 7, then b -/
structure FarIs (t b : List Nat) (P n : Nat) : Prop where
  lb : b.length = P
  lt : t.length = n + P
  p3 : 3 ≤ P
  p40 : P ≤ 40
  pn : P < n
  a : ∀ i, i < P → t.getD i 0 = b.getD i 0
  m : ∀ i, P ≤ i → i < n → t.getD i 0 = 7
  z : ∀ i, i < P → t.getD (n + i) 0 = b.getD i 0
  no : ∀ i, i < P → b.getD i 0 ≠ 7
theorem far_of (b : List Nat) (P F : Nat) (hb : b.length = P) (h3 : 3 ≤ P) (h4 : P ≤ 40) (hF : 0 < F) (hno : ∀ i, i < P → b.getD i 0 ≠ 7) : FarIs (b ++ List.replicate F 7 ++ b) b P (P + F) := by
  refine ⟨hb, by simp [hb]; omega, h3, h4, by omega, fun i hi => ?_, fun i h1 h2 => ?_, fun i hi => ?_, hno⟩
  · simp only [List.getD_eq_getElem?_getD]
    rw [List.append_assoc, List.getElem?_append_left (by omega)]
  · simp only [List.getD_eq_getElem?_getD]
    rw [List.append_assoc, List.getElem?_append_right (by omega), List.getElem?_append_left (by simp; omega), List.getElem?_replicate, if_pos (by omega)]
    rfl
  · simp only [List.getD_eq_getElem?_getD]
    rw [List.getElem?_append_right (by simp; omega)]
    congr 2
    simp
    omega
theorem FarIs.first {t b : List Nat} {P n : Nat} (h : FarIs t b P n) (i k : Nat) (hi : i < k) (hk : k < P) : k + run t i k 258 ≤ P := by
  rcases Nat.lt_or_ge P (k + run t i k 258) with h1 | h1
  · have h2 := (run_all t 258 i k (P - k) (by omega)).2
    rw [show k + (P - k) = P by omega, h.a (i + (P - k)) (by omega), h.m P (by omega) h.pn] at h2
    exact absurd h2 (h.no _ (by omega))
  · exact h1
theorem FarIs.mid {t b : List Nat} {P n : Nat} (h : FarIs t b P n) (i k : Nat) (hi : i < k) (hk : P ≤ k) (hkn : k < n) : k + run t i k 258 ≤ n := by
  rcases Nat.lt_or_ge n (k + run t i k 258) with h1 | h1
  · have hz := h.z 0 (by have := h.p3; omega)
    have h2 := (run_all t 258 i k (n - k) (by omega)).2
    rw [show k + (n - k) = n + 0 by omega, hz] at h2
    have h3 := (run_all t 258 i k 0 (by omega)).2
    rw [Nat.add_zero, Nat.add_zero, h.m k hk hkn] at h3
    have hiP : P ≤ i := by
      rcases Nat.lt_or_ge i P with h4 | h4
      · rw [h.a i h4] at h3
        exact absurd h3 (h.no i h4)
      · exact h4
    rw [h.m (i + (n - k)) (by omega) (by omega)] at h2
    exact absurd h2.symm (h.no 0 (by have := h.p3; omega))
  · exact h1
theorem FarIs.stop {t b : List Nat} {P n : Nat} (h : FarIs t b P n) (k : Nat) (hk : k < n) : k + wid (tok t k) ≤ n := by
  have hl := h.lt
  have hp := h.pn
  rcases tok_is t k (by omega) with ⟨ht, _⟩ | ⟨s, d, ht, h3, h8, hd, hdk, hdf, hks, hrs, _⟩
  · rw [ht]; simp only [wid]; simp; omega
  · rw [ht]; simp only [wid]; rw [if_neg (by omega), ← hrs]
    by_cases hkP : k < P
    · have := h.first (k - d) k (by omega) hkP; omega
    · exact h.mid (k - d) k (by omega) (by omega) hk
/-- the tokens come to the place where the second one begins -/
theorem FarIs.to {t b : List Nat} {P n : Nat} (h : FarIs t b P n) : ∀ (m k : Nat), n ≤ k + m → k ≤ n → ∃ l, toks t k = l ++ toks t n
  | 0, k, h1, h2 => by rw [show k = n by omega]; exact ⟨[], rfl⟩
  | m + 1, k, h1, h2 => by
    by_cases hk : k < n
    · have hs := h.stop k hk
      have hl := h.lt
      have hw := wid_pos t k (by omega)
      obtain ⟨l, hl2⟩ := h.to m (k + wid (tok t k)) (by omega) hs
      exact ⟨tok t k :: l, by rw [toks_in t k (by omega), hl2]; rfl⟩
    · rw [show k = n by omega]; exact ⟨[], rfl⟩
/-- the last token begins at a place from there on, and ends the text -/
theorem FarIs.last {t b : List Nat} {P n : Nat} (h : FarIs t b P n) : ∀ (m k : Nat), t.length ≤ k + m → n ≤ k → k < t.length → ∃ l j, toks t k = l ++ [tok t j] ∧ n ≤ j ∧ j < t.length ∧ j + wid (tok t j) = t.length
  | 0, k, h1, _, h3 => by omega
  | m + 1, k, h1, h2, h3 => by
    have hw := wid_pos t k h3
    by_cases he : k + wid (tok t k) = t.length
    · exact ⟨[], k, by rw [toks_in t k h3, he, toks_out t _ (Nat.le_refl _)]; rfl, h2, h3, he⟩
    · obtain ⟨l, j, h4, h5⟩ := h.last m (k + wid (tok t k)) (by omega) (by omega) (by omega)
      exact ⟨tok t k :: l, j, by rw [toks_in t k h3, h4]; rfl, h5⟩
theorem FarIs.near {t b : List Nat} {P n : Nat} (h : FarIs t b P n) (hn : n = 32768) : tok t n = (0, P, 32768) := by
  have hp3 := h.p3
  have hp4 := h.p40
  have hpn := h.pn
  have hl := h.lt
  have hrun : run t 0 n 258 = P := run_unique t 258 0 n P (by omega) (fun j hj => ⟨by omega, by rw [Nat.zero_add, h.a j hj, h.z j hj]⟩) fun _ h1 => by omega
  have hmax : ∀ i, run t i n 258 ≤ P := fun i => by have := run_room t 258 i n (by omega); omega
  rcases tok_is t n (by omega) with ⟨ht, hall⟩ | ⟨s, d, ht, h3, h8, hd, hdk, hdf, hks, hrs, hall, hnear⟩
  · have := hall 0 (by omega) (by omega); omega
  · have h1 := hall 0 (by omega) (by omega)
    have h2 := hmax (n - d)
    have hs : s = P := by omega
    have hd0 : d = 32768 := by
      rcases Nat.lt_or_ge d 32768 with h4 | h4
      · exfalso
        have h5 := (run_all t 258 (n - d) n 0 (by omega)).2
        have h6 := h.z 0 (by omega)
        rw [Nat.add_zero] at h5 h6
        rw [Nat.add_zero, h6] at h5
        have h7 := (run_all t 258 (n - d) n (P - 1) (by omega)).2
        rw [h.z (P - 1) (by omega)] at h7
        rcases Nat.lt_or_ge (n - d) P with h8 | h8
        · rw [h.m (n - d + (P - 1)) (by omega) (by omega)] at h7
          exact h.no _ (by omega) h7.symm
        · rw [h.m (n - d) h8 (by omega)] at h5
          exact h.no _ (by omega) h5.symm
      · omega
    rw [ht, hs, hd0]
theorem FarIs.far {t b : List Nat} {P n : Nat} (h : FarIs t b P n) (hn : 32768 < n) (j : Nat) (h1 : n ≤ j) (h2 : j < t.length) (h3 : j + wid (tok t j) = t.length) : (tok t j).2.2 ≤ P := by
  have hp3 := h.p3
  have hp4 := h.p40
  have hpn := h.pn
  have hl := h.lt
  rcases tok_is t j h2 with ⟨ht, _⟩ | ⟨s, d, ht, s3, h8, hd, hdk, hdf, hks, hrs, _⟩
  · rw [ht]; simp
  · rw [ht] at h3 ⊢
    simp only [wid] at h3
    rw [if_neg (by omega)] at h3
    simp only
    rcases Nat.lt_or_ge P d with h4 | h4
    · exfalso
      have h5 := (run_all t 258 (j - d) j 0 (by omega)).2
      have h6 := h.z (j - n) (by omega)
      rw [show n + (j - n) = j by omega] at h6
      rw [Nat.add_zero, Nat.add_zero, h6] at h5
      have h7 := (run_all t 258 (j - d) j (s - 1) (by omega)).2
      have h9 := h.z (P - 1) (by omega)
      rw [show n + (P - 1) = j + (s - 1) by omega] at h9
      rw [h9] at h7
      rcases Nat.lt_or_ge (j - d) P with h10 | h10
      · rw [h.m (j - d + (s - 1)) (by omega) (by omega)] at h7
        exact h.no _ (by omega) h7.symm
      · rw [h.m (j - d) h10 (by omega)] at h5
        exact h.no _ (by omega) h5.symm
    · exact h4
/-- the last token of all -/
theorem FarIs.end' {t b : List Nat} {P n : Nat} (h : FarIs t b P n) (hn : 32768 ≤ n) : ∃ l u, toks t 0 = l ++ [u] ∧ (n = 32768 → u.2.2 = 32768 ∧ u.2.1 = P) ∧ (32768 < n → u.2.2 ≤ P) := by
  have hp3 := h.p3
  have hl := h.lt
  obtain ⟨l0, hl0⟩ := h.to n 0 (by omega) (by omega)
  by_cases e : n = 32768
  · have ht := h.near e
    refine ⟨l0, (0, P, 32768), ?_, fun _ => ⟨rfl, rfl⟩, fun h1 => by omega⟩
    rw [hl0, toks_in t n (by omega), ht, show wid (0, P, 32768) = P from by simp [wid], toks_out t (n + P) (by omega)]
  · obtain ⟨l1, j, h1, h2, h3, h4⟩ := h.last t.length n (by omega) (by omega) (by omega)
    exact ⟨l0 ++ l1, tok t j, by rw [hl0, h1, List.append_assoc], fun h5 => absurd h5 e, fun h5 => h.far h5 j h2 h3 h4⟩
end Go.Proofs.Ytoplighbodcbnaa
