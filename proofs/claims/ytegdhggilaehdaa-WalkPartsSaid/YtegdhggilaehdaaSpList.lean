/- Places in lists of keys and counts; sums of pairs in any order. -/
import Derived.Test.YtegdhggilaehdaaSpMath
import Derived.Test.YtegdhggilaehdaaDnPairs
import Derived.Test.YtegdhggilaehdaaDnRef
namespace Go.Proofs.Ytegdhggilaehdaa

theorem prs_app (a b : List Pr) : prs (a ++ b) = prs a ++ prs b := by simp [prs]
theorem prs_cons (t : Pr) (l : List Pr) : prs (t :: l) = .int .i64 t.1 :: .int .u64 (t.2 : Int) :: prs l := by simp [prs]
theorem prs_one (l : List Pr) : ∀ u ∈ prs l, u.oneCell' = true := by
  intro u hu
  unfold prs at hu
  obtain ⟨t, -, ht⟩ := List.mem_flatMap.1 hu
  simp only [List.mem_cons, List.not_mem_nil, or_false] at ht
  rcases ht with rfl | rfl <;> rfl
theorem prs_take (l : List Pr) (i : Nat) : prs (l.take i) = (prs l).take (i * 2) := by
  induction l generalizing i with
  | nil => simp [prs]
  | cons x l ih =>
    cases i with
    | zero => simp [prs]
    | succ i =>
      rw [List.take_succ_cons, prs_cons, prs_cons, ih, show (i + 1) * 2 = i * 2 + 1 + 1 by omega, List.take_succ_cons, List.take_succ_cons]
theorem prs_drop (l : List Pr) (i : Nat) : prs (l.drop i) = (prs l).drop (i * 2) := by
  induction l generalizing i with
  | nil => simp [prs]
  | cons x l ih =>
    cases i with
    | zero => simp [prs]
    | succ i =>
      rw [List.drop_succ_cons, prs_cons, ih, show (i + 1) * 2 = i * 2 + 1 + 1 by omega, List.drop_succ_cons, List.drop_succ_cons]
theorem prs_set (a : List Pr) (k : Int) (n m : Nat) (b : List Pr) (i : Nat) (hi : a.length = i) : (prs (a ++ (k, n) :: b)).set (i * 2 + 1) (.int .u64 (m : Int)) = prs (a ++ (k, m) :: b) := by
  subst hi
  rw [prs_app, prs_cons, prs_app, prs_cons, List.set_append, if_neg (by rw [prs_len]; omega), prs_len]
  rw [show a.length * 2 + 1 - a.length * 2 = 1 by omega]
  rfl
theorem prs_get (l : List Pr) (j : Nat) (u : Value) (h : (prs l)[j]? = some u) : ∃ i, ∃ hi : i < l.length, (j = i * 2 ∧ u = .int .i64 l[i].1) ∨ (j = i * 2 + 1 ∧ u = .int .u64 (l[i].2 : Int)) := by
  have hj := (List.getElem?_eq_some_iff.1 h).1
  rw [prs_len] at hj
  refine ⟨j / 2, by omega, ?_⟩
  have := prs_at l (j / 2) (by omega)
  rcases (by omega : j = j / 2 * 2 ∨ j = j / 2 * 2 + 1) with e | e
  · refine .inl ⟨e, ?_⟩
    rw [e, this.1] at h
    exact (Option.some.inj h).symm
  · refine .inr ⟨e, ?_⟩
    rw [e, this.2] at h
    exact (Option.some.inj h).symm

/-- where a key belongs: all ahead are less, none behind is -/
theorem put_in {l : List Pr} {k : Int} {n i : Nat} (hi : i < l.length) (hs : Srt l) (h1 : ∀ j, (hj : j < l.length) → j < i → l[j].1 < k) (h2 : l[i].1 = k) : lput l k n = l.take i ++ (k, l[i].2 + n) :: l.drop (i + 1) := by
  induction l generalizing i with
  | nil => simp at hi
  | cons x l ih =>
    cases i with
    | zero =>
      simp only [List.getElem_cons_zero] at h2 ⊢
      rw [lput, if_neg (by omega), if_pos h2]
      rfl
    | succ i =>
      have h0 := h1 0 (by simp) (by omega)
      simp only [List.getElem_cons_zero] at h0
      rw [lput, if_pos h0, ih (by simpa using hi) (srt_cons.1 hs).2 (fun j hj hji => by have := h1 (j + 1) (by simpa using hj) (by omega); simpa using this) (by simpa using h2)]
      simp
theorem put_out {l : List Pr} {k : Int} {n i : Nat} (hi : i ≤ l.length) (h1 : ∀ j, (hj : j < l.length) → j < i → l[j].1 < k) (h2 : ∀ h : i < l.length, k < l[i].1) : lput l k n = l.take i ++ (k, n) :: l.drop i := by
  induction l generalizing i with
  | nil => obtain rfl : i = 0 := by simpa using hi
           simp [lput]
  | cons x l ih =>
    cases i with
    | zero =>
      have := h2 (by simp)
      simp only [List.getElem_cons_zero] at this
      rw [lput, if_neg (by omega), if_neg (by omega)]
      rfl
    | succ i =>
      have h0 := h1 0 (by simp) (by omega)
      simp only [List.getElem_cons_zero] at h0
      rw [lput, if_pos h0, ih (by simpa using hi) (fun j hj hji => by have := h1 (j + 1) (by simpa using hj) (by omega); simpa using this) (fun h => by have := h2 (by simpa using h); simpa using this)]
      simp
theorem bel_take {l : List Pr} {k : Int} {i : Nat} (h1 : ∀ j, (hj : j < l.length) → j < i → l[j].1 < k) (h2 : ∀ j, (hj : j < l.length) → i ≤ j → k ≤ l[j].1) : ltot (l.take i) = bel l k := by
  induction l generalizing i with
  | nil => simp [ltot, bel]
  | cons x l ih =>
    cases i with
    | zero =>
      rw [bel_zero fun y hy => ?_]
      · rfl
      · obtain ⟨j, hj, rfl⟩ := List.mem_iff_getElem.1 hy
        exact h2 j hj (by omega)
    | succ i =>
      have h0 := h1 0 (by simp) (by omega)
      simp only [List.getElem_cons_zero] at h0
      rw [List.take_succ_cons, ltot, bel, if_pos h0, ih (fun j hj hji => by have := h1 (j + 1) (by simpa using hj) (by omega); simpa using this) (fun j hj hji => by have := h2 (j + 1) (by simpa using hj) (by omega); simpa using this)]
theorem upt_take {l : List Pr} {k : Int} {i : Nat} (h1 : ∀ j, (hj : j < l.length) → j < i → l[j].1 ≤ k) (h2 : ∀ j, (hj : j < l.length) → i ≤ j → k < l[j].1) : ltot (l.take i) = upt l k := by
  induction l generalizing i with
  | nil => simp [ltot, upt]
  | cons x l ih =>
    cases i with
    | zero =>
      rw [upt_zero fun y hy => ?_]
      · rfl
      · obtain ⟨j, hj, rfl⟩ := List.mem_iff_getElem.1 hy
        exact h2 j hj (by omega)
    | succ i =>
      have h0 := h1 0 (by simp) (by omega)
      simp only [List.getElem_cons_zero] at h0
      rw [List.take_succ_cons, ltot, upt, if_pos h0, ih (fun j hj hji => by have := h1 (j + 1) (by simpa using hj) (by omega); simpa using this) (fun j hj hji => by have := h2 (j + 1) (by simpa using hj) (by omega); simpa using this)]
theorem bel_le (l : List Pr) (k : Int) : bel l k ≤ ltot l := by
  induction l with
  | nil => exact Nat.le_refl _
  | cons x l ih => rw [bel, ltot]; split <;> omega
theorem upt_le (l : List Pr) (k : Int) : upt l k ≤ ltot l := by
  induction l with
  | nil => exact Nat.le_refl _
  | cons x l ih => rw [upt, ltot]; split <;> omega
/-- keys that stand before greater ones -/
theorem srt_lt {l : List Pr} (hs : Srt l) {i j : Nat} (hi : i < l.length) (hj : j < l.length) (h : i < j) : l[i].1 < l[j].1 := List.pairwise_iff_getElem.1 hs i j hi hj h
theorem srt_le {l : List Pr} (hs : Srt l) {i j : Nat} (hi : i < l.length) (hj : j < l.length) (h : i ≤ j) : l[i].1 ≤ l[j].1 := by
  rcases (by omega : i < j ∨ i = j) with h | rfl
  · exact Int.le_of_lt (srt_lt hs hi hj h)
  · exact Int.le_refl _
/-- a greatest key, or one more, is put behind all -/
theorem put_last {l : List Pr} {k : Int} {n : Nat} (h : ∀ x ∈ l, x.1 < k) : lput l k n = l ++ [(k, n)] := by
  rw [put_out (i := l.length) (Nat.le_refl _) (fun j hj _ => h _ (List.getElem_mem hj)) (fun h => by omega)]
  simp
theorem put_same {l : List Pr} {k : Int} {m n : Nat} (h : ∀ x ∈ l, x.1 < k) : lput (l ++ [(k, m)]) k n = l ++ [(k, m + n)] := by
  induction l with
  | nil => rw [List.nil_append, lput, if_neg (by simp), if_pos rfl]; rfl
  | cons x l ih =>
    rw [List.cons_append, lput, if_pos (h x List.mem_cons_self), ih fun y hy => h y (List.mem_cons_of_mem _ hy)]
    rfl

/-- how often a key stands in pairs in any order -/
def many : List Pr → Int → Nat
  | [], _ => 0
  | x :: r, k => (if x.1 = k then x.2 else 0) + many r k
theorem many_app (a b : List Pr) (k : Int) : many (a ++ b) k = many a k + many b k := by
  induction a with
  | nil => simp [many]
  | cons x a ih => rw [List.cons_append, many, many, ih]; omega
theorem many_perm {a b : List Pr} (h : a.Perm b) (k : Int) : many a k = many b k := by
  induction h with
  | nil => rfl
  | cons x _ ih => rw [many, many, ih]
  | swap x y l => rw [many, many, many, many]; omega
  | trans _ _ h1 h2 => rw [h1, h2]
theorem many_cnt {l : List Pr} (hs : Srt l) (k : Int) : many l k = cnt l k := by
  induction l with
  | nil => rfl
  | cons x r ih =>
    have hs' := srt_cons.1 hs
    rw [many, cnt, ih hs'.2]
    by_cases e : x.1 = k
    · rw [if_pos e, if_pos e, cnt_out fun y hy => by have := hs'.1 y hy; omega]; rfl
    · rw [if_neg e, if_neg e]; omega
theorem cnt_puts (m : List Pr) : ∀ (l : List Pr) (j : Int), Srt l → cnt (lputs l m) j = cnt l j + many m j := by
  induction m with
  | nil => intro l j _; simp [lputs, many]
  | cons x m ih =>
    intro l j hl
    rw [show lputs l (x :: m) = lputs (lput l x.1 x.2) m from rfl, ih _ _ (put_srt hl), cnt_put _ _ _ hl, many]
    by_cases e : x.1 = j
    · rw [if_pos e, if_pos e.symm]; omega
    · rw [if_neg e, if_neg fun h => e h.symm]; omega
/-- pairs in whatever order are counted alike -/
theorem puts_perm {a b : List Pr} (h : a.Perm b) (hp : Pos a) : lputs [] a = lputs [] b := by
  have hq : Pos b := fun x hx => hp x (h.mem_iff.2 hx)
  exact ext_cnt (putAll_srt srt_nil a) (putAll_srt srt_nil b) (putAll_pos pos_nil hp) (putAll_pos pos_nil hq) fun k => by
    rw [cnt_puts a [] k srt_nil, cnt_puts b [] k srt_nil, many_perm h k]
end Go.Proofs.Ytegdhggilaehdaa
