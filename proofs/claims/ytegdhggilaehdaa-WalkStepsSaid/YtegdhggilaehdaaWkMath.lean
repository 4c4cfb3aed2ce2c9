/- Sums of counts by rising keys: what a table keeps. -/
import Derived.Test.YtegdhggilaehdaaSpMath
import Derived.Test.YtegdhggilaehdaaSpRef
namespace Go.Proofs.Ytegdhggilaehdaa

/-- each key with the rank of its last thing, when s things came ahead -/
def cums : Nat → List Pr → List Pr
  | _, [] => []
  | s, x :: t => (x.1, s + x.2) :: cums (s + x.2) t
/-- a table's steps -/
def stp (l : List Pr) : List Pr := cums 0 l
theorem cums_len : ∀ (s : Nat) (l : List Pr), (cums s l).length = l.length
  | _, [] => rfl
  | s, x :: t => by rw [cums, List.length_cons, List.length_cons, cums_len]
theorem cums_at : ∀ (s : Nat) (l : List Pr) (i : Nat) (h : i < l.length), (cums s l)[i]'(by rw [cums_len]; exact h) = (l[i].1, s + ltot (l.take (i + 1)))
  | s, x :: t, 0, _ => by simp [cums, ltot]
  | s, x :: t, i + 1, h => by
    have := cums_at (s + x.2) t i (by simpa using h)
    simp only [cums, List.getElem_cons_succ, List.take_succ_cons, ltot]
    rw [this, Nat.add_assoc]
theorem cums_snoc : ∀ (s : Nat) (l : List Pr) (x : Pr), cums s (l ++ [x]) = cums s l ++ [(x.1, s + ltot l + x.2)]
  | s, [], x => by simp [cums, ltot]
  | s, y :: t, x => by
    rw [List.cons_append, cums, cums_snoc, cums, ltot, List.cons_append, Nat.add_assoc s y.2]
theorem stp_len (l : List Pr) : (stp l).length = l.length := cums_len 0 l
theorem stp_at (l : List Pr) (i : Nat) (h : i < l.length) : (stp l)[i]'(by rw [stp_len]; exact h) = (l[i].1, ltot (l.take (i + 1))) := by
  have := cums_at 0 l i h
  rw [Nat.zero_add] at this
  exact this
theorem stp_snoc (l : List Pr) (x : Pr) : stp (l ++ [x]) = stp l ++ [(x.1, ltot l + x.2)] := by
  have := cums_snoc 0 l x
  rw [Nat.zero_add] at this
  exact this

/-- are pairs a table's? -/
structure Tb (l : List Pr) : Prop where
  srt : Srt l
  pos : Pos l
  tot : ltot l ≤ 4611686018427387904
theorem Tb.nil : Tb [] := ⟨srt_nil, pos_nil, by decide⟩
theorem srt_snoc {l : List Pr} {x : Pr} : Srt (l ++ [x]) ↔ Srt l ∧ ∀ y ∈ l, y.1 < x.1 := by
  unfold Srt
  rw [List.pairwise_append]
  constructor
  · rintro ⟨h1, -, h3⟩
    exact ⟨h1, fun y hy => h3 y hy x (by simp)⟩
  · rintro ⟨h1, h2⟩
    exact ⟨h1, List.pairwise_singleton _ _, fun y hy z hz => by obtain rfl := List.mem_singleton.1 hz; exact h2 y hy⟩
theorem pos_snoc {l : List Pr} {x : Pr} : Pos (l ++ [x]) ↔ Pos l ∧ 0 < x.2 := by
  unfold Pos
  constructor
  · exact fun h => ⟨fun y hy => h y (by simp [hy]), h x (by simp)⟩
  · rintro ⟨h1, h2⟩ y hy
    rcases List.mem_append.1 hy with h | h
    · exact h1 y h
    · obtain rfl := List.mem_singleton.1 h; exact h2
theorem tot_snoc (l : List Pr) (x : Pr) : ltot (l ++ [x]) = ltot l + x.2 := by
  induction l with
  | nil => simp [ltot]
  | cons y l ih => rw [List.cons_append, ltot, ltot, ih]; omega
/-- a key behind the last one is behind all -/
theorem srt_last {l : List Pr} {k : Int} (hs : Srt l) (h : ∀ (hl : 0 < l.length), (l[l.length - 1]'(by omega)).1 < k) : ∀ y ∈ l, y.1 < k := by
  intro y hy
  obtain ⟨i, hi, rfl⟩ := List.mem_iff_getElem.1 hy
  have h1 := h (by omega)
  rcases (by omega : i = l.length - 1 ∨ i < l.length - 1) with rfl | h2
  · exact h1
  · have := List.pairwise_iff_getElem.1 hs i (l.length - 1) hi (by omega) h2
    omega
theorem Tb.snoc {l : List Pr} {x : Pr} (h : Tb l) (hk : ∀ (hl : 0 < l.length), (l[l.length - 1]'(by omega)).1 < x.1) (h0 : 0 < x.2) (ht : x.2 ≤ 4611686018427387904 - ltot l) : Tb (l ++ [x]) :=
  ⟨srt_snoc.2 ⟨h.srt, srt_last h.srt hk⟩, pos_snoc.2 ⟨h.pos, h0⟩, by have := h.tot; rw [tot_snoc]; omega⟩
/-- a beginning of a table is one -/
theorem Tb.of_app {l m : List Pr} (h : Tb (l ++ m)) : Tb l :=
  ⟨(List.pairwise_append.1 h.srt).1, fun x hx => h.pos x (by simp [hx]), by have := h.tot; rw [tot_app] at this; omega⟩
theorem Tb.last {l : List Pr} {x : Pr} (h : Tb (l ++ [x])) : (∀ (hl : 0 < l.length), (l[l.length - 1]'(by omega)).1 < x.1) ∧ 0 < x.2 ∧ x.2 ≤ 4611686018427387904 - ltot l := by
  refine ⟨fun hl => (srt_snoc.1 h.srt).2 _ (List.getElem_mem _), (pos_snoc.1 h.pos).2, ?_⟩
  have := h.tot
  rw [tot_snoc] at this
  omega
theorem tot_zero {l : List Pr} (h : Pos l) : ltot l = 0 ↔ l = [] := by
  constructor
  · intro e
    cases l with
    | nil => rfl
    | cons x t => have := (pos_cons.1 h).1; rw [ltot] at e; omega
  · rintro rfl; rfl

/-- the first i things' sum -/
def ahd (l : List Pr) (i : Nat) : Nat := ltot (l.take i)
theorem ahd_zero (l : List Pr) : ahd l 0 = 0 := rfl
theorem ahd_all (l : List Pr) : ahd l l.length = ltot l := by unfold ahd; rw [List.take_length]
theorem ahd_le (l : List Pr) (i : Nat) : ahd l i ≤ ltot l := tot_take_le l i
theorem ahd_succ {l : List Pr} {i : Nat} (h : i < l.length) : ahd l (i + 1) = ahd l i + l[i].2 := tot_take h
theorem ahd_mono (l : List Pr) {i j : Nat} (h : i ≤ j) : ahd l i ≤ ahd l j := by
  have := tot_take_le (l.take j) i
  rw [List.take_take, Nat.min_eq_left h] at this
  exact this
theorem bel_app (a b : List Pr) (k : Int) : bel (a ++ b) k = bel a k + bel b k := by
  induction a with
  | nil => simp [bel]
  | cons x a ih => rw [List.cons_append, bel, bel, ih]; omega
theorem upt_app (a b : List Pr) (k : Int) : upt (a ++ b) k = upt a k + upt b k := by
  induction a with
  | nil => simp [upt]
  | cons x a ih => rw [List.cons_append, upt, upt, ih]; omega
theorem bel_all' {l : List Pr} {k : Int} (h : ∀ x ∈ l, x.1 < k) : bel l k = ltot l := by
  induction l with
  | nil => rfl
  | cons x r ih =>
    rw [bel, ltot, if_pos (h x List.mem_cons_self), ih fun y hy => h y (List.mem_cons_of_mem _ hy)]
theorem upt_all' {l : List Pr} {k : Int} (h : ∀ x ∈ l, x.1 ≤ k) : upt l k = ltot l := by
  induction l with
  | nil => rfl
  | cons x r ih =>
    rw [upt, ltot, if_pos (h x List.mem_cons_self), ih fun y hy => h y (List.mem_cons_of_mem _ hy)]
/-- what is up to the key at i -/
theorem upt_at {l : List Pr} (hs : Srt l) {i : Nat} (h : i < l.length) : upt l l[i].1 = ahd l (i + 1) := by
  unfold ahd
  have e : l = l.take (i + 1) ++ l.drop (i + 1) := (List.take_append_drop _ _).symm
  obtain ⟨k, hk⟩ : ∃ k, l[i].1 = k := ⟨_, rfl⟩
  rw [hk]
  conv => lhs; rw [e]
  rw [upt_app, upt_all' (l := l.take (i + 1)), upt_zero (l := l.drop (i + 1))]
  · rfl
  · intro x hx
    obtain ⟨j, hj, rfl⟩ := List.mem_iff_getElem.1 hx
    rw [List.getElem_drop, ← hk]
    exact List.pairwise_iff_getElem.1 hs i _ h _ (by omega)
  · intro x hx
    obtain ⟨j, hj, rfl⟩ := List.mem_iff_getElem.1 hx
    rw [List.getElem_take, ← hk]
    have hj' : j < i + 1 := by rw [List.length_take] at hj; omega
    rcases (by omega : j = i ∨ j < i) with rfl | g
    · exact Int.le_refl _
    · exact Int.le_of_lt (List.pairwise_iff_getElem.1 hs j i _ h g)
theorem bel_at {l : List Pr} (hs : Srt l) {i : Nat} (h : i < l.length) : bel l l[i].1 = ahd l i := by
  unfold ahd
  have e : l = l.take i ++ l.drop i := (List.take_append_drop _ _).symm
  obtain ⟨k, hk⟩ : ∃ k, l[i].1 = k := ⟨_, rfl⟩
  rw [hk]
  conv => lhs; rw [e]
  rw [bel_app, bel_all' (l := l.take i), bel_zero (l := l.drop i)]
  · rfl
  · intro x hx
    obtain ⟨j, hj, rfl⟩ := List.mem_iff_getElem.1 hx
    rw [List.getElem_drop, ← hk]
    rcases (by omega : j = 0 ∨ 0 < j) with rfl | g
    · exact Int.le_refl _
    · exact Int.le_of_lt (List.pairwise_iff_getElem.1 hs i _ h _ (by omega))
  · intro x hx
    obtain ⟨j, hj, rfl⟩ := List.mem_iff_getElem.1 hx
    rw [List.getElem_take, ← hk]
    exact List.pairwise_iff_getElem.1 hs j i _ h (by rw [List.length_take] at hj; omega)
/-- the first place whose sum isn't below a rank has that rank's key -/
theorem key_place {l : List Pr} {r i : Nat} (hs : Srt l) (h1 : 1 ≤ r) (h2 : r ≤ ltot l) (hi : i < l.length) (hl : ahd l i < r) (hu : r ≤ ahd l (i + 1)) : keyW l r = l[i].1 :=
  keyW_only hs h1 h2 (by rw [bel_at hs hi]; exact hl) (by rw [upt_at hs hi]; exact hu)
/-- a place among rising keys -/
theorem bel_place {l : List Pr} {k : Int} {i : Nat} (hi : i ≤ l.length) (hl : ∀ j, (h : j < l.length) → j < i → l[j].1 < k) (hu : ∀ j, (h : j < l.length) → i ≤ j → k ≤ l[j].1) : ahd l i = bel l k := by
  unfold ahd
  conv => rhs; rw [(List.take_append_drop i l).symm]
  rw [bel_app, bel_all' (l := l.take i), bel_zero (l := l.drop i)]
  · rfl
  · intro x hx
    obtain ⟨j, hj, rfl⟩ := List.mem_iff_getElem.1 hx
    rw [List.getElem_drop]
    exact hu _ _ (by omega)
  · intro x hx
    obtain ⟨j, hj, rfl⟩ := List.mem_iff_getElem.1 hx
    rw [List.getElem_take]
    exact hl j _ (by rw [List.length_take] at hj; omega)
theorem upt_place {l : List Pr} {k : Int} {i : Nat} (hi : i ≤ l.length) (hl : ∀ j, (h : j < l.length) → j < i → l[j].1 ≤ k) (hu : ∀ j, (h : j < l.length) → i ≤ j → k < l[j].1) : ahd l i = upt l k := by
  unfold ahd
  conv => rhs; rw [(List.take_append_drop i l).symm]
  rw [upt_app, upt_all' (l := l.take i), upt_zero (l := l.drop i)]
  · rfl
  · intro x hx
    obtain ⟨j, hj, rfl⟩ := List.mem_iff_getElem.1 hx
    rw [List.getElem_drop]
    exact hu _ _ (by omega)
  · intro x hx
    obtain ⟨j, hj, rfl⟩ := List.mem_iff_getElem.1 hx
    rw [List.getElem_take]
    exact hl j _ (by rw [List.length_take] at hj; omega)
/-- a greater rank has no lesser key -/
theorem keyW_mono {l : List Pr} {r s : Nat} (hs : Srt l) (h1 : 1 ≤ r) (h : r ≤ s) (h2 : s ≤ ltot l) : keyW l r ≤ keyW l s := by
  obtain ⟨-, a1, a2⟩ := keyW_rank hs h1 (Nat.le_trans h h2)
  obtain ⟨-, b1, b2⟩ := keyW_rank hs (Nat.le_trans h1 h) h2
  rcases Int.lt_or_le (keyW l s) (keyW l r) with g | g
  · have := bel_upt l g
    omega
  · exact g

/-- the first of the pairs that are counted most often -/
def mst : Pr → List Pr → Pr
  | b, [] => b
  | b, x :: t => mst (if b.2 < x.2 then x else b) t
theorem mst_snoc : ∀ (b : Pr) (l : List Pr) (x : Pr), mst b (l ++ [x]) = if (mst b l).2 < x.2 then x else mst b l
  | b, [], x => rfl
  | b, y :: t, x => by rw [List.cons_append, mst, mst_snoc, mst]
theorem mst_pos : ∀ (b : Pr) (l : List Pr), b.2 ≤ (mst b l).2
  | _, [] => Nat.le_refl _
  | b, x :: t => by
    have := mst_pos (if b.2 < x.2 then x else b) t
    rw [mst]
    split at this
    · rename_i h; rw [if_pos h]; omega
    · rename_i h; rw [if_neg h]; exact this
/-- begun with nothing -/
theorem mst_zero {x : Pr} {t : List Pr} (h : 0 < x.2) : mst (0, 0) (x :: t) = mst x t := by
  rw [mst, if_pos h]
end Go.Proofs.Ytegdhggilaehdaa
