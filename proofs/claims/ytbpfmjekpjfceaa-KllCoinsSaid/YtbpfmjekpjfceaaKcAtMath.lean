/- The value of a rank among levels. -/
import Derived.Test.YtbpfmjekpjfceaaKcTerms
namespace Go.Proofs.Ytbpfmjekpjfceaa
open Go.RowKit

/-- up to a value; below it -/
def upB (v : Int) : Int → Bool := fun x => decide (x ≤ v)
def loB (v : Int) : Int → Bool := fun x => decide (x < v)
theorem low_up (v : Int) : Low (upB v) := fun a b h hb => by
  unfold upB at *
  simp only [decide_eq_true_eq] at *
  omega
theorem low_lo (v : Int) : Low (loB v) := fun a b h hb => by
  unfold loB at *
  simp only [decide_eq_true_eq] at *
  omega
/-- the best one so far -/
def bstep (L : Lv) (r : Nat) (b : Option Int) (v : Int) : Option Int := match b with
  | none => if r ≤ cntL (upB v) L then some v else none
  | some x => if r ≤ cntL (upB v) L ∧ v < x then some v else some x
def bstL (L : Lv) (r : Nat) (b : Option Int) (vs : List Int) : Option Int := vs.foldl (bstep L r) b
def atV (L : Lv) (r : Nat) : Int := ((L.flatten.foldl (bstep L r) none)).getD 0
theorem bstL_none (L : Lv) (r : Nat) : ∀ (vs : List Int), bstL L r none vs = none → ∀ v ∈ vs, ¬ r ≤ cntL (upB v) L
  | [], _, v, hv => nomatch hv
  | x :: vs, h, v, hv => by
    have h1 : bstL L r (bstep L r none x) vs = none := h
    by_cases hx : r ≤ cntL (upB x) L
    · exfalso
      have e : bstep L r none x = some x := if_pos hx
      rw [e] at h1
      have : ∀ (vs : List Int) (y : Int), bstL L r (some y) vs ≠ none := by
        intro vs
        induction vs with
        | nil => intro y h; cases h
        | cons a vs ih =>
          intro y
          show bstL L r (bstep L r (some y) a) vs ≠ none
          unfold bstep
          simp only
          split
          · exact ih a
          · exact ih y
      exact this vs x h1
    · have e : bstep L r none x = none := if_neg hx
      rw [e] at h1
      rcases List.mem_cons.1 hv with rfl | hv
      · exact hx
      · exact bstL_none L r vs h1 v hv
theorem bstL_some (L : Lv) (r : Nat) : ∀ (vs : List Int) (x y : Int), r ≤ cntL (upB x) L → bstL L r (some x) vs = some y → (y = x ∨ y ∈ vs) ∧ r ≤ cntL (upB y) L ∧ y ≤ x ∧ ∀ z ∈ vs, r ≤ cntL (upB z) L → y ≤ z
  | [], x, y, hx, h => by
    obtain rfl : x = y := Option.some.inj h
    exact ⟨.inl rfl, hx, Int.le_refl _, fun z hz => nomatch hz⟩
  | a :: vs, x, y, hx, h => by
    have h1 : bstL L r (bstep L r (some x) a) vs = some y := h
    by_cases ha : r ≤ cntL (upB a) L ∧ a < x
    · have e : bstep L r (some x) a = some a := if_pos ha
      rw [e] at h1
      obtain ⟨i1, i2, i3, i4⟩ := bstL_some L r vs a y ha.1 h1
      refine ⟨i1.elim (fun h => .inr (by rw [h]; simp)) fun h => .inr (List.mem_cons_of_mem _ h), i2, by omega, fun z hz hr => ?_⟩
      rcases List.mem_cons.1 hz with rfl | hz
      · exact i3
      · exact i4 z hz hr
    · have e : bstep L r (some x) a = some x := if_neg ha
      rw [e] at h1
      obtain ⟨i1, i2, i3, i4⟩ := bstL_some L r vs x y hx h1
      refine ⟨i1.elim .inl fun h => .inr (List.mem_cons_of_mem _ h), i2, i3, fun z hz hr => ?_⟩
      rcases List.mem_cons.1 hz with rfl | hz
      · by_cases hz2 : z < x
        · exact absurd ⟨hr, hz2⟩ ha
        · omega
      · exact i4 z hz hr
theorem bstL_first (L : Lv) (r : Nat) : ∀ (vs : List Int) (y : Int), bstL L r none vs = some y → y ∈ vs ∧ r ≤ cntL (upB y) L ∧ ∀ z ∈ vs, r ≤ cntL (upB z) L → y ≤ z
  | [], y, h => by cases h
  | a :: vs, y, h => by
    have h1 : bstL L r (bstep L r none a) vs = some y := h
    by_cases ha : r ≤ cntL (upB a) L
    · have e : bstep L r none a = some a := if_pos ha
      rw [e] at h1
      obtain ⟨i1, i2, i3, i4⟩ := bstL_some L r vs a y ha h1
      refine ⟨i1.elim (fun h => by rw [h]; simp) fun h => List.mem_cons_of_mem _ h, i2, fun z hz hr => ?_⟩
      rcases List.mem_cons.1 hz with rfl | hz
      · exact i3
      · exact i4 z hz hr
    · have e : bstep L r none a = none := if_neg ha
      rw [e] at h1
      obtain ⟨i1, i2, i4⟩ := bstL_first L r vs y h1
      refine ⟨List.mem_cons_of_mem _ i1, i2, fun z hz hr => ?_⟩
      rcases List.mem_cons.1 hz with rfl | hz
      · exact absurd hr ha
      · exact i4 z hz hr
/-- y is the value of the rank r -/
def IsAt (L : Lv) (r : Nat) (y : Int) : Prop := InL L y ∧ r ≤ cntL (upB y) L ∧ ∀ z, InL L z → r ≤ cntL (upB z) L → y ≤ z
theorem inL_flat (L : Lv) (x : Int) : InL L x ↔ x ∈ L.flatten := by
  simp [InL, List.mem_flatten]
theorem IsAt.atV {L : Lv} {r : Nat} {y : Int} (h : IsAt L r y) : atV L r = y := by
  obtain ⟨h1, h2, h3⟩ := h
  unfold Go.Proofs.Ytbpfmjekpjfceaa.atV
  change (bstL L r none L.flatten).getD 0 = y
  cases hb : bstL L r none L.flatten with
  | none => exact absurd h2 (bstL_none L r _ hb y ((inL_flat L y).1 h1))
  | some x =>
    obtain ⟨i1, i2, i3⟩ := bstL_first L r _ x hb
    have a1 := h3 x ((inL_flat L x).2 i1) i2
    have a2 := i3 y ((inL_flat L y).1 h1) h2
    show x = y
    omega
/-- the weight of the terms that P holds of -/
def wcnt (P : Int → Bool) (l : List Tm) : Nat := (l.map fun t => if P t.1 then t.2 else 0).sum
theorem wcnt_app (P : Int → Bool) (a b : List Tm) : wcnt P (a ++ b) = wcnt P a + wcnt P b := by simp [wcnt]
theorem wcnt_cons (P : Int → Bool) (t : Tm) (l : List Tm) : wcnt P (t :: l) = (if P t.1 then t.2 else 0) + wcnt P l := by simp [wcnt]
theorem wcnt_map (P : Int → Bool) (X : Nat) : ∀ l : List Int, wcnt P (l.map fun v => (v, X)) = X * l.countP P
  | [] => rfl
  | a :: r => by
    rw [List.map_cons, wcnt_cons, wcnt_map P X r, List.countP_cons]
    split
    · rw [Nat.mul_add]; omega
    · simp
theorem wcnt_trms (P : Int → Bool) : ∀ (L : Lv) (h : Nat), wcnt P (trms h L) = 2 ^ h * cntL P L
  | [], _ => by simp [trms, wcnt, cntL]
  | l :: r, h => by
    rw [trms, wcnt_app, wcnt_map, wcnt_trms P r (h + 1), cntL, Nat.pow_succ, Nat.mul_add, Nat.mul_assoc]
theorem wcnt_perm (P : Int → Bool) {a b : List Tm} (h : a.Perm b) : wcnt P a = wcnt P b := (h.map _).sum_nat
theorem wcnt_wts (l : List Tm) : wcnt (fun _ => true) l = wts l := by simp [wcnt, wts]
theorem trms_mem : ∀ (L : Lv) (h : Nat) (t : Tm), t ∈ trms h L → InL L t.1
  | [], _, _, h => nomatch h
  | l :: r, h, t, ht => by
    rw [trms] at ht
    rcases List.mem_append.1 ht with h1 | h1
    · obtain ⟨v, hv, rfl⟩ := List.mem_map.1 h1
      exact ⟨l, List.mem_cons_self, hv⟩
    · exact (trms_mem r (h + 1) t h1).cons
theorem wcnt_none (P : Int → Bool) : ∀ l : List Tm, (∀ t ∈ l, P t.1 = false) → wcnt P l = 0
  | [], _ => rfl
  | t :: l, h => by rw [wcnt_cons, wcnt_none P l fun x hx => h x (List.mem_cons_of_mem _ hx), h t List.mem_cons_self]; rfl
theorem wcnt_all (P : Int → Bool) : ∀ l : List Tm, (∀ t ∈ l, P t.1 = true) → wcnt P l = wts l
  | [], _ => rfl
  | t :: l, h => by
    have ih := wcnt_all P l fun x hx => h x (List.mem_cons_of_mem _ hx)
    rw [wcnt_cons, ih, h t List.mem_cons_self]
    simp [wts]
theorem wcnt_le (P : Int → Bool) : ∀ l : List Tm, wcnt P l ≤ wts l
  | [] => Nat.le_refl _
  | t :: l => by
    have ih := wcnt_le P l
    rw [wcnt_cons]
    have : wts (t :: l) = t.2 + wts l := by simp [wts]
    rw [this]
    split <;> omega
/-- what a walk through sorted terms finds -/
theorem isAt_sorted {L : Lv} {r : Nat} {l : List Tm} (hp : l.Perm (trms 0 L)) (hs : ∀ i j, (hj : j < l.length) → (hi : i < j) → (l[i]'(by omega)).1 ≤ l[j].1) {i : Nat} (hi : i < l.length) (h1 : wts (l.take i) < r) (h2 : r ≤ wts (l.take (i + 1))) : IsAt L r l[i].1 := by
  have hw : ∀ P, wcnt P l = cntL P L := fun P => by rw [wcnt_perm P hp, wcnt_trms]; simp
  refine ⟨trms_mem L 0 _ (hp.mem_iff.1 (List.getElem_mem hi)), ?_, fun z hz hr => ?_⟩
  · rw [← hw]
    have e : l = l.take (i + 1) ++ l.drop (i + 1) := (List.take_append_drop _ _).symm
    have ha := wcnt_all (upB l[i].1) (l.take (i + 1)) fun t ht => by
      obtain ⟨j, hj, rfl⟩ := List.getElem_of_mem ht
      rw [List.length_take] at hj
      rw [List.getElem_take]
      unfold upB
      simp only [decide_eq_true_eq]
      by_cases hji : j = i
      · subst hji; exact Int.le_refl _
      · exact hs j i hi (by omega)
    have : wcnt (upB l[i].1) l = wcnt (upB l[i].1) (l.take (i + 1)) + wcnt (upB l[i].1) (l.drop (i + 1)) := by
      rw [← wcnt_app, List.take_append_drop]
    rw [this, ha]
    omega
  · by_cases hlt : z < l[i].1
    · exfalso
      rw [← hw] at hr
      have : wcnt (upB z) l = wcnt (upB z) (l.take i) + wcnt (upB z) (l.drop i) := by
        rw [← wcnt_app, List.take_append_drop]
      have h0 := wcnt_none (upB z) (l.drop i) fun t ht => by
        obtain ⟨j, hj, rfl⟩ := List.getElem_of_mem ht
        rw [List.length_drop] at hj
        rw [List.getElem_drop]
        unfold upB
        simp only [decide_eq_false_iff_not]
        by_cases hj0 : j = 0
        · subst hj0
          simp only [Nat.add_zero]
          omega
        · have := hs i (i + j) (by omega) (by omega)
          omega
      have h3 := wcnt_le (upB z) (l.take i)
      rw [this, h0] at hr
      omega
    · omega
theorem wts_trms (L : Lv) : wts (trms 0 L) = wtL L := by
  rw [← wcnt_wts, wcnt_trms]
  simp [wtL]
theorem wts_perm {a b : List Tm} (h : a.Perm b) : wts a = wts b := by rw [← wcnt_wts, ← wcnt_wts, wcnt_perm _ h]
end Go.Proofs.Ytbpfmjekpjfceaa
