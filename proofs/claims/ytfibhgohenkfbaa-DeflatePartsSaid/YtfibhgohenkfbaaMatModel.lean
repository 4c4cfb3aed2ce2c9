/- What a text's tokens are, as numbers. -/
import Derived.Test.YtfibhgohenkfbaaBytes
namespace Go.Proofs.Ytfibhgohenkfbaa.M

/-- how many bytes are the same from i and from k on: m at most, none beyond the end -/
def run (b : List Nat) : Nat → Nat → Nat → Nat
  | _, _, 0 => 0
  | i, k, m + 1 => if k < b.length ∧ b.getD i 0 = b.getD k 0 then run b (i + 1) (k + 1) m + 1 else 0
theorem run_unique (b : List Nat) : ∀ (m i k n : Nat), n ≤ m → (∀ j, j < n → k + j < b.length ∧ b.getD (i + j) 0 = b.getD (k + j) 0) → (n < m → ¬ (k + n < b.length ∧ b.getD (i + n) 0 = b.getD (k + n) 0)) → run b i k m = n
  | 0, i, k, n, h, _, _ => by simp [run]; omega
  | m + 1, i, k, 0, _, _, h3 => by
    have := h3 (by omega)
    simp only [Nat.add_zero] at this
    unfold run
    rw [if_neg this]
  | m + 1, i, k, n + 1, h1, h2, h3 => by
    have h0 := h2 0 (by omega)
    simp only [Nat.add_zero] at h0
    unfold run
    rw [if_pos h0, run_unique b m (i + 1) (k + 1) n (by omega)]
    · intro j hj
      have := h2 (j + 1) (by omega)
      rw [show i + 1 + j = i + (j + 1) by omega, show k + 1 + j = k + (j + 1) by omega]
      exact this
    · intro hn
      have := h3 (by omega)
      rw [show i + 1 + n = i + (n + 1) by omega, show k + 1 + n = k + (n + 1) by omega]
      exact this
theorem run_le (b : List Nat) : ∀ (m i k : Nat), run b i k m ≤ m
  | 0, _, _ => by simp [run]
  | m + 1, i, k => by
    unfold run
    split
    · have := run_le b m (i + 1) (k + 1); omega
    · omega
theorem run_all (b : List Nat) : ∀ (m i k j : Nat), j < run b i k m → k + j < b.length ∧ b.getD (i + j) 0 = b.getD (k + j) 0
  | 0, _, _, j, h => by simp [run] at h
  | m + 1, i, k, j, h => by
    unfold run at h
    split at h
    · rename_i h0
      cases j with
      | zero => exact h0
      | succ j =>
        have := run_all b m (i + 1) (k + 1) j (by omega)
        rw [show i + 1 + j = i + (j + 1) by omega, show k + 1 + j = k + (j + 1) by omega] at this
        exact this
    · omega
theorem run_end (b : List Nat) : ∀ (m i k : Nat), run b i k m < m → ¬ (k + run b i k m < b.length ∧ b.getD (i + run b i k m) 0 = b.getD (k + run b i k m) 0)
  | 0, _, _, h => by simp [run] at h
  | m + 1, i, k, h => by
    unfold run at h ⊢
    split
    · rename_i h0
      rw [if_pos h0] at h
      have := run_end b m (i + 1) (k + 1) (by omega)
      rw [show i + (run b (i + 1) (k + 1) m + 1) = i + 1 + run b (i + 1) (k + 1) m by omega, show k + (run b (i + 1) (k + 1) m + 1) = k + 1 + run b (i + 1) (k + 1) m by omega]
      exact this
    · rename_i h0
      simpa using h0
theorem run_room (b : List Nat) (m i k : Nat) (hk : k ≤ b.length) : k + run b i k m ≤ b.length := by
  by_cases h : run b i k m = 0
  · omega
  · have := (run_all b m i k (run b i k m - 1) (by omega)).1
    omega
/-- whatever room there is beyond the end makes no difference -/
theorem run_cap (b : List Nat) (m m' i k : Nat) (h : m' ≤ m) (hm : b.length ≤ k + m' ∨ m' = m) : run b i k m' = run b i k m := by
  rcases hm with hm | rfl
  · refine (run_unique b m i k _ (Nat.le_trans (run_le b m' i k) h) (run_all b m' i k) fun _ => ?_).symm
    by_cases h1 : run b i k m' < m'
    · exact run_end b m' i k h1
    · have := run_le b m' i k
      omega
  · rfl

/-- of the j nearest places ahead of k: how many bytes stand there at most, and how far back that is; of several the nearest -/
def bst (b : List Nat) (k : Nat) : Nat → Nat × Nat
  | 0 => (0, 0)
  | j + 1 => if (bst b k j).1 < run b (k - 1 - j) k 258 then (run b (k - 1 - j) k 258, j + 1) else bst b k j
/-- fewer than three: none -/
def nrm (r : Nat × Nat) : Nat × Nat := if 3 ≤ r.1 then r else (2, 0)
theorem nrm_ge (r : Nat × Nat) : 2 ≤ (nrm r).1 := by unfold nrm; split <;> first | omega | exact Nat.le_refl _
theorem nrm_max (r : Nat × Nat) : r.1 ≤ (nrm r).1 := by unfold nrm; split <;> first | exact Nat.le_refl _ | (show r.1 ≤ 2; omega)
theorem nrm_step (b : List Nat) (k j : Nat) : nrm (bst b k (j + 1)) = if (nrm (bst b k j)).1 < run b (k - 1 - j) k 258 then (run b (k - 1 - j) k 258, j + 1) else nrm (bst b k j) := by
  have h1 := nrm_max (bst b k j)
  have h2 := nrm_ge (bst b k j)
  rw [bst]
  by_cases h : (nrm (bst b k j)).1 < run b (k - 1 - j) k 258
  · rw [if_pos h, if_pos (by omega)]
    unfold nrm
    rw [if_pos (show 3 ≤ run b (k - 1 - j) k 258 by omega)]
  · rw [if_neg h]
    split
    · rename_i h3
      unfold nrm at h ⊢
      split at h
      · omega
      · rw [if_neg (by omega), if_neg (by assumption)]
    · rfl
theorem nrm_stop (b : List Nat) (k J : Nat) : ∀ J', J ≤ J' → (∀ j, J ≤ j → j < J' → run b (k - 1 - j) k 258 ≤ (nrm (bst b k J)).1) → nrm (bst b k J') = nrm (bst b k J)
  | 0, h, _ => by rw [Nat.le_zero.1 h]
  | J' + 1, h, h1 => by
    by_cases e : J = J' + 1
    · rw [e]
    · have ih := nrm_stop b k J J' (by omega) fun j h2 h3 => h1 j h2 (by omega)
      rw [nrm_step, ih, if_neg (by have := h1 J' (by omega) (by omega); omega)]
/-- what is best of j places: it stands there; none of them is longer; none nearer is as long -/
theorem bst_is (b : List Nat) (k : Nat) : ∀ j, (∀ i, i < j → run b (k - 1 - i) k 258 ≤ (bst b k j).1) ∧ (bst b k j).2 ≤ j ∧ ((bst b k j).2 = 0 ↔ (bst b k j).1 = 0) ∧
    (0 < (bst b k j).2 → run b (k - (bst b k j).2) k 258 = (bst b k j).1 ∧ ∀ i, i + 1 < (bst b k j).2 → run b (k - 1 - i) k 258 < (bst b k j).1)
  | 0 => by simp [bst]
  | j + 1 => by
    obtain ⟨h1, h2, h3, h4⟩ := bst_is b k j
    rw [bst]
    split
    · rename_i h
      refine ⟨fun i hi => ?_, Nat.le_refl _, by simp; omega, fun _ => ⟨by rw [show k - (j + 1) = k - 1 - j by omega], fun i hi => ?_⟩⟩
      · by_cases e : i = j
        · rw [e]; exact Nat.le_refl _
        · have := h1 i (by omega); simp only; omega
      · have := h1 i (by simp only at hi; omega); simp only; omega
    · rename_i h
      refine ⟨fun i hi => ?_, by omega, h3, h4⟩
      by_cases e : i = j
      · rw [e]; omega
      · exact h1 i (by omega)

/-- a token: a byte; how many bytes, how far back -/
abbrev Tk := Nat × Nat × Nat
def tok (b : List Nat) (k : Nat) : Tk := if (nrm (bst b k (min k 32768))).1 < 3 then (b.getD k 0, 0, 0) else (0, (nrm (bst b k (min k 32768))).1, (nrm (bst b k (min k 32768))).2)
def wid (t : Tk) : Nat := if t.2.2 = 0 then 1 else t.2.1
/-- what a token says: a byte of the text, or bytes that stand there -/
theorem tok_is (b : List Nat) (k : Nat) (hk : k < b.length) : (tok b k = (b.getD k 0, 0, 0) ∧ (∀ i, i < k → k ≤ i + 32768 → run b i k 258 < 3)) ∨
    (∃ s d, tok b k = (0, s, d) ∧ 3 ≤ s ∧ s ≤ 258 ∧ 0 < d ∧ d ≤ k ∧ d ≤ 32768 ∧ k + s ≤ b.length ∧ run b (k - d) k 258 = s ∧ (∀ i, i < k → k ≤ i + 32768 → run b i k 258 ≤ s) ∧ ∀ i, k < i + d → i < k → run b i k 258 < s) := by
  obtain ⟨h1, h2, h3, h4⟩ := bst_is b k (min k 32768)
  have all : ∀ i, i < k → k ≤ i + 32768 → run b i k 258 ≤ (bst b k (min k 32768)).1 := fun i hi hf => by
    have := h1 (k - 1 - i) (by omega)
    rwa [show k - 1 - (k - 1 - i) = i by omega] at this
  unfold tok nrm
  by_cases h : 3 ≤ (bst b k (min k 32768)).1
  · rw [if_pos h, if_neg (by omega)]
    have hd : 0 < (bst b k (min k 32768)).2 := by
      rcases Nat.eq_zero_or_pos (bst b k (min k 32768)).2 with e | e
      · have := h3.1 e; omega
      · exact e
    obtain ⟨h5, h6⟩ := h4 hd
    refine .inr ⟨_, _, rfl, h, by rw [← h5]; exact run_le b _ _ _, hd, by omega, by omega, ?_, h5, all, fun i hi hk => ?_⟩
    · rw [← h5]; exact run_room b _ _ _ (by omega)
    · have := h6 (k - 1 - i) (by omega)
      rwa [show k - 1 - (k - 1 - i) = i by omega] at this
  · rw [if_neg h, if_pos (by simp)]
    exact .inl ⟨rfl, fun i hi hf => by have := all i hi hf; omega⟩
theorem wid_pos (b : List Nat) (k : Nat) (hk : k < b.length) : 0 < wid (tok b k) ∧ k + wid (tok b k) ≤ b.length := by
  rcases tok_is b k hk with ⟨h, _⟩ | ⟨s, d, h, h3, _, hd, _, _, hr, _⟩
  · rw [h]; simp [wid]; omega
  · rw [h]; simp only [wid]; rw [if_neg (by omega)]; omega

/-- a text's tokens from k on -/
def toks (b : List Nat) (k : Nat) : List Tk := if _h : k < b.length then tok b k :: toks b (k + wid (tok b k)) else []
termination_by b.length - k
decreasing_by have := wid_pos b k (by assumption); omega
theorem toks_in (b : List Nat) (k : Nat) (h : k < b.length) : toks b k = tok b k :: toks b (k + wid (tok b k)) := by rw [toks, dif_pos h]
theorem toks_out (b : List Nat) (k : Nat) (h : b.length ≤ k) : toks b k = [] := by rw [toks, dif_neg (by omega)]
theorem toks_len (b : List Nat) : ∀ (m k : Nat), b.length ≤ k + m → (toks b k).length + k ≤ max k b.length
  | 0, k, h => by rw [toks_out b k h]; simp; omega
  | m + 1, k, h => by
    by_cases hk : k < b.length
    · have hw := wid_pos b k hk
      have := toks_len b m (k + wid (tok b k)) (by omega)
      rw [toks_in b k hk, List.length_cons]
      omega
    · rw [toks_out b k (by omega)]; simp; omega

/-- where a start stands ahead of k -/
def lst (b : List Nat) (k x y z : Nat) : List Nat := (List.range k).filter fun i => decide (i + 3 ≤ b.length ∧ b.getD i 0 = x ∧ b.getD (i + 1) 0 = y ∧ b.getD (i + 2) 0 = z)
theorem lst_mem (b : List Nat) (k x y z i : Nat) : i ∈ lst b k x y z ↔ i < k ∧ i + 3 ≤ b.length ∧ b.getD i 0 = x ∧ b.getD (i + 1) 0 = y ∧ b.getD (i + 2) 0 = z := by simp [lst]
theorem lst_len (b : List Nat) (k x y z : Nat) : (lst b k x y z).length ≤ k := by
  have := List.length_filter_le (fun i => decide (i + 3 ≤ b.length ∧ b.getD i 0 = x ∧ b.getD (i + 1) 0 = y ∧ b.getD (i + 2) 0 = z)) (List.range k)
  simpa [lst] using this
theorem lst_sorted (b : List Nat) (k x y z : Nat) : (lst b k x y z).Pairwise (· < ·) := List.Pairwise.filter _ List.pairwise_lt_range
theorem lst_next (b : List Nat) (k x y z : Nat) : lst b (k + 1) x y z = if k + 3 ≤ b.length ∧ b.getD k 0 = x ∧ b.getD (k + 1) 0 = y ∧ b.getD (k + 2) 0 = z then lst b k x y z ++ [k] else lst b k x y z := by
  unfold lst
  rw [List.range_succ, List.filter_append]
  split <;> rename_i h <;> simp only [List.filter_cons, List.filter_nil] <;> simp only [h, decide_true, decide_false, if_true, Bool.false_eq_true, if_false, and_self, List.append_nil]
/-- where three bytes aren't the same, no run is of three -/
theorem run_short (b : List Nat) (i k : Nat) (h : ¬ (b.getD i 0 = b.getD k 0 ∧ b.getD (i + 1) 0 = b.getD (k + 1) 0 ∧ b.getD (i + 2) 0 = b.getD (k + 2) 0)) : run b i k 258 ≤ 2 := by
  rcases Nat.lt_or_ge 2 (run b i k 258) with h1 | h1
  · exact absurd ⟨by have := (run_all b 258 i k 0 (by omega)).2; simpa only [Nat.add_zero] using this, (run_all b 258 i k 1 (by omega)).2, (run_all b 258 i k 2 (by omega)).2⟩ h
  · exact h1
end Go.Proofs.Ytfibhgohenkfbaa.M
