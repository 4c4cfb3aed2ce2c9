/- Levels: lists are merged, put, added. -/
import Derived.Test.YtbpfmjekpjfceaaKlPack
namespace Go.Proofs.Ytbpfmjekpjfceaa

/-- how many of the first values are less -/
def lbz (v : Int) : List Int → Nat
  | [] => 0
  | y :: r => if y < v then lbz v r + 1 else 0
theorem lbz_le (v : Int) : ∀ l, lbz v l ≤ l.length
  | [] => Nat.le_refl _
  | y :: r => by
    have := lbz_le v r
    rw [lbz]
    split <;> simp <;> omega
theorem lbz_is (v : Int) : ∀ (l : List Int) (i : Nat), i ≤ l.length → (∀ j, (hj : j < l.length) → j < i → l[j] < v) → ((hi : i < l.length) → v ≤ l[i]) → lbz v l = i
  | [], i, hi, _, _ => by
    have : i = 0 := by simpa using hi
    subst this
    rfl
  | y :: r, 0, _, _, h2 => by
    have := h2 (by simp)
    simp only [List.getElem_cons_zero] at this
    rw [lbz, if_neg (by omega)]
  | y :: r, i + 1, hi, h1, h2 => by
    have h0 := h1 0 (by simp) (by omega)
    simp only [List.getElem_cons_zero] at h0
    rw [lbz, if_pos h0, lbz_is v r i (by simpa using hi) (fun j hj hji => h1 (j + 1) (Nat.succ_lt_succ hj) (by omega)) (fun hi => h2 (Nat.succ_lt_succ hi))]
theorem lbz_take (v : Int) : ∀ (l : List Int) x, x ∈ l.take (lbz v l) → x < v
  | [], x, h => by simp at h
  | y :: r, x, h => by
    rw [lbz] at h
    by_cases hy : y < v
    · rw [if_pos hy, List.take_succ_cons] at h
      rcases List.mem_cons.1 h with rfl | h
      · exact hy
      · exact lbz_take v r x h
    · rw [if_neg hy] at h
      simp at h
theorem lbz_drop (v : Int) : ∀ (l : List Int), Asc l → ∀ x, x ∈ l.drop (lbz v l) → v ≤ x
  | [], _, x, h => by simp at h
  | y :: r, ha, x, h => by
    obtain ⟨h1, h2⟩ := List.pairwise_cons.1 ha
    rw [lbz] at h
    by_cases hy : y < v
    · rw [if_pos hy, List.drop_succ_cons] at h
      exact lbz_drop v r h2 x h
    · rw [if_neg hy, List.drop_zero] at h
      rcases List.mem_cons.1 h with rfl | h
      · omega
      · have := h1 x h; omega
/-- two lists as one, as it is done -/
def mrgC : List Int → List Int → List Int
  | a, [] => a
  | a, v :: b => a.take (lbz v a) ++ v :: mrgC (a.drop (lbz v a)) b
def puts1 (a b : List Int) : List Int := b.foldl (fun L x => insZ x L) a
theorem insZ_perm (v : Int) : ∀ l, (insZ v l).Perm (v :: l)
  | [] => List.Perm.refl _
  | y :: r => by
    rw [insZ]
    split
    · exact List.Perm.refl _
    · exact ((insZ_perm v r).cons y).trans (List.Perm.swap v y r)
theorem puts1_perm : ∀ (b a : List Int), (puts1 a b).Perm (b ++ a)
  | [], a => List.Perm.refl _
  | x :: b, a => by
    have h1 := puts1_perm b (insZ x a)
    exact h1.trans (((insZ_perm x a).append_left b).trans List.perm_middle)
theorem puts1_asc : ∀ (b a : List Int), Asc a → Asc (puts1 a b)
  | [], _, h => h
  | x :: b, a, h => puts1_asc b _ (insZ_asc x a h)
theorem puts1_len (a b : List Int) : (puts1 a b).length = a.length + b.length := by
  rw [(puts1_perm b a).length_eq, List.length_append]
  omega
theorem mrgC_perm : ∀ (b a : List Int), (mrgC a b).Perm (b ++ a)
  | [], a => List.Perm.refl _
  | v :: b, a => by
    have h1 := mrgC_perm b (a.drop (lbz v a))
    rw [mrgC]
    refine (List.perm_middle).trans (List.Perm.cons v ?_)
    refine ((h1.append_left (a.take (lbz v a)))).trans ?_
    refine (List.perm_append_comm_assoc _ _ _).trans ?_
    rw [List.take_append_drop]
    exact List.Perm.refl _
theorem mrgC_len (a b : List Int) : (mrgC a b).length = a.length + b.length := by
  rw [(mrgC_perm b a).length_eq, List.length_append]
  omega
theorem Asc.take {l : List Int} (h : Asc l) (n : Nat) : Asc (l.take n) := List.Pairwise.sublist (List.take_sublist _ _) h
theorem Asc.drop {l : List Int} (h : Asc l) (n : Nat) : Asc (l.drop n) := List.Pairwise.sublist (List.drop_sublist _ _) h
theorem mrgC_asc : ∀ (b a : List Int), Asc a → Asc b → Asc (mrgC a b)
  | [], _, h, _ => h
  | v :: b, a, ha, hb => by
    obtain ⟨h1, h2⟩ := List.pairwise_cons.1 hb
    have hm : ∀ x ∈ mrgC (a.drop (lbz v a)) b, v ≤ x := fun x hx => by
      rcases List.mem_append.1 ((mrgC_perm b _).mem_iff.1 hx) with h | h
      · exact h1 x h
      · exact lbz_drop v a ha x h
    rw [mrgC]
    refine List.pairwise_append.2 ⟨ha.take _, List.pairwise_cons.2 ⟨hm, mrgC_asc b _ (ha.drop _) h2⟩, fun x hx y hy => ?_⟩
    have := lbz_take v a x hx
    rcases List.mem_cons.1 hy with rfl | hy
    · omega
    · have := hm y hy; omega
theorem mrgC_eq {a b : List Int} (ha : Asc a) (hb : Asc b) : mrgC a b = puts1 a b :=
  List.Perm.eq_of_pairwise (le := fun x y => x ≤ y) (fun x y _ _ h1 h2 => by omega) (mrgC_asc b a ha hb) (puts1_asc b a ha) ((mrgC_perm b a).trans (puts1_perm b a).symm)
theorem puts1_nil {b : List Int} (hb : Asc b) : puts1 [] b = b := by
  have h := puts1_perm b []
  rw [List.append_nil] at h
  exact List.Perm.eq_of_pairwise (le := fun x y => x ≤ y) (fun x y _ _ h1 h2 => by omega) (puts1_asc b [] List.Pairwise.nil) hb h
/-- values are put to a level that is there then -/
def putC : Lv → Nat → List Int → Lv
  | [], 0, xs => [puts1 [] xs]
  | [], h + 1, xs => [] :: putC [] h xs
  | l :: r, 0, xs => puts1 l xs :: r
  | l :: r, h + 1, xs => l :: putC r h xs
theorem putC_set (xs : List Int) : ∀ (L : Lv) (h : Nat) (hh : h < L.length), putC L h xs = L.set h (puts1 L[h] xs)
  | [], h, hh => absurd hh (Nat.not_lt_zero _)
  | l :: r, 0, _ => rfl
  | l :: r, h + 1, hh => by
    rw [putC, putC_set xs r h (by simpa using hh)]
    rfl
theorem putC_pad (xs : List Int) : ∀ (L : Lv) (h : Nat), L.length ≤ h → putC (L ++ [[]]) h xs = putC L h xs
  | [], 0, _ => rfl
  | [], h + 1, _ => by rw [List.nil_append, putC, putC]
  | l :: r, 0, hh => absurd hh (Nat.not_succ_le_zero _)
  | l :: r, h + 1, hh => by rw [List.cons_append, putC, putC, putC_pad xs r h (by simpa using hh)]
theorem putC_one (x : Int) : ∀ (L : Lv) (h : Nat), putC L h [x] = putL L h x
  | [], 0 => rfl
  | [], h + 1 => by rw [putC, putL, putC_one x [] h]
  | l :: r, 0 => rfl
  | l :: r, h + 1 => by rw [putC, putL, putC_one x r h]
theorem putC_cons (x : Int) (xs : List Int) : ∀ (L : Lv) (h : Nat), putC L h (x :: xs) = putC (putL L h x) h xs
  | [], 0 => rfl
  | [], h + 1 => by rw [putC, putL, putC_cons x xs [] h, putC]
  | l :: r, 0 => rfl
  | l :: r, h + 1 => by rw [putC, putL, putC_cons x xs r h, putC]
theorem putC_puts (h : Nat) : ∀ (xs : List Int) (L : Lv), xs ≠ [] → putC L h xs = putsL L h xs
  | [], _, hx => absurd rfl hx
  | [x], L, _ => putC_one x L h
  | x :: y :: xs, L, _ => by rw [putC_cons, putC_puts h (y :: xs) _ (by simp), putsL_cons L]
theorem putC_len (xs : List Int) : ∀ (L : Lv) (h : Nat), (putC L h xs).length = max L.length (h + 1)
  | [], 0 => rfl
  | [], h + 1 => by rw [putC, List.length_cons, putC_len xs [] h]; simp
  | l :: r, 0 => by rw [putC, List.length_cons, List.length_cons]; omega
  | l :: r, h + 1 => by rw [putC, List.length_cons, List.length_cons, putC_len xs r h]; omega
/-- levels are put, one behind the other, from h on -/
def addC : Lv → Nat → Lv → Lv
  | L, _, [] => L
  | L, h, l :: r => addC (putC L h l) (h + 1) r
def addP : Lv → Nat → Lv → Lv
  | L, _, [] => L
  | L, h, l :: r => addP (putsL L h l) (h + 1) r
/-- level by level -/
def addZ : Lv → Lv → Lv
  | [], T => T.map fun t => puts1 [] t
  | L, [] => L
  | l :: r, t :: s => puts1 l t :: addZ r s
theorem addC_succ (x : List Int) : ∀ (T r : Lv) (h : Nat), addC (x :: r) (h + 1) T = x :: addC r h T
  | [], _, _ => rfl
  | t :: s, r, h => by rw [addC, addC, putC, addC_succ x s]
theorem addC_zero : ∀ (T L : Lv), addC L 0 T = addZ L T
  | [], [] => rfl
  | [], _ :: _ => rfl
  | t :: s, [] => by
    rw [addC, putC, addC_succ, addC_zero s []]
    simp [addZ]
  | t :: s, l :: r => by rw [addC, putC, addC_succ, addC_zero s r, addZ]
theorem putsL_zero : ∀ (xs l : List Int) (r : Lv), putsL (l :: r) 0 xs = puts1 l xs :: r
  | [], _, _ => rfl
  | x :: xs, l, r => by
    rw [putsL_cons, putL, putsL_zero xs]
    rfl
theorem addP_succ (x : List Int) : ∀ (T r : Lv) (h : Nat), addP (x :: r) (h + 1) T = x :: addP r h T
  | [], _, _ => rfl
  | t :: s, r, h => by rw [addP, addP, putsL_succ, addP_succ x s]
theorem putsL_nil {xs : List Int} (h : Nat) (hx : xs ≠ []) : putsL [] (h + 1) xs = [] :: putsL [] h xs := by
  cases xs with
  | nil => exact absurd rfl hx
  | cons x xs => rw [putsL_cons, putL, putsL_succ, putsL_cons]
theorem addP_nil : ∀ (s : Lv) (h : Nat), s ≠ [] → Top s → addP [] (h + 1) s = [] :: addP [] h s
  | [], _, hs, _ => absurd rfl hs
  | x :: s, h, _, hT => by
    rw [addP, addP]
    by_cases hx : x = []
    · subst hx
      have hs : s ≠ [] := fun e => by subst e; exact hT rfl
      rw [show putsL [] (h + 1) [] = [] from rfl, show putsL [] h [] = [] from rfl]
      exact addP_nil s (h + 1) hs hT.tail
    · rw [putsL_nil h hx, addP_succ]
theorem addP_zero : ∀ (T L : Lv), Top T → addP L 0 T = addZ L T
  | [], [], _ => rfl
  | [], _ :: _, _ => rfl
  | t :: s, [], hT => by
    have ih := addP_zero s [] hT.tail
    rw [addP]
    by_cases ht : t = []
    · subst ht
      have hs : s ≠ [] := fun e => by subst e; exact hT rfl
      rw [show putsL [] 0 [] = [] from rfl, addP_nil s 0 hs hT.tail, ih]
      simp [addZ, puts1]
    · have e : putsL [] 0 t = [puts1 [] t] := by
        cases t with
        | nil => exact absurd rfl ht
        | cons x xs =>
          rw [putsL_cons, putL, putsL_zero]
          rfl
      rw [e, addP_succ, ih]
      simp [addZ]
  | t :: s, l :: r, hT => by
    rw [addP, putsL_zero, addP_succ, addP_zero s r hT.tail, addZ]
theorem puts1_cnt (P : Int → Bool) (a b : List Int) : (puts1 a b).countP P = a.countP P + b.countP P := by
  rw [(puts1_perm b a).countP_eq, List.countP_append]
  omega
theorem addZ_cnt (P : Int → Bool) : ∀ (L T : Lv), cntL P (addZ L T) = cntL P L + cntL P T
  | [], [] => rfl
  | [], t :: s => by
    have ih := addZ_cnt P [] s
    rw [addZ] at ih
    rw [addZ, List.map_cons]
    show (puts1 [] t).countP P + 2 * cntL P (s.map fun t => puts1 [] t) = 0 + (t.countP P + 2 * cntL P s)
    rw [puts1_cnt, ih]
    simp only [cntL, List.countP_nil]
    omega
  | l :: r, [] => by simp [addZ, cntL]
  | l :: r, t :: s => by
    rw [addZ, cntL, cntL, cntL, puts1_cnt, addZ_cnt P r s]
    omega
theorem addZ_wt (L T : Lv) : wtL (addZ L T) = wtL L + wtL T := addZ_cnt _ L T
theorem addZ_kept : ∀ (L T : Lv), kept (addZ L T) = kept L + kept T
  | [], [] => rfl
  | [], t :: s => by
    have ih := addZ_kept [] s
    rw [addZ] at ih
    rw [addZ, List.map_cons]
    show (puts1 [] t).length + kept (s.map fun t => puts1 [] t) = 0 + (t.length + kept s)
    rw [puts1_len, ih]
    simp only [kept, List.length_nil]
    omega
  | l :: r, [] => by simp [addZ, kept]
  | l :: r, t :: s => by
    rw [addZ, kept, kept, kept, puts1_len, addZ_kept r s]
    omega
theorem addZ_asc : ∀ (L T : Lv), AscL L → AscL T → AscL (addZ L T)
  | [], T, _, hT => fun x hx => by
    rw [addZ] at hx
    obtain ⟨t, ht, rfl⟩ := List.mem_map.1 hx
    exact puts1_asc t [] List.Pairwise.nil
  | l :: r, [], hL, _ => hL
  | l :: r, t :: s, hL, hT => fun x hx => by
    rw [addZ] at hx
    rcases List.mem_cons.1 hx with rfl | hx
    · exact puts1_asc t l (hL l List.mem_cons_self)
    · exact addZ_asc r s (fun z hz => hL z (List.mem_cons_of_mem _ hz)) (fun z hz => hT z (List.mem_cons_of_mem _ hz)) x hx
theorem addZ_in : ∀ (L T : Lv) x, InL (addZ L T) x → InL L x ∨ InL T x
  | [], T, x, ⟨l, hl, hx⟩ => by
    rw [addZ] at hl
    obtain ⟨t, ht, rfl⟩ := List.mem_map.1 hl
    have := (puts1_perm t []).mem_iff.1 hx
    rw [List.append_nil] at this
    exact .inr ⟨t, ht, this⟩
  | l :: r, [], x, h => .inl h
  | l :: r, t :: s, x, ⟨z, hz, hx⟩ => by
    rw [addZ] at hz
    rcases List.mem_cons.1 hz with rfl | hz
    · rcases List.mem_append.1 ((puts1_perm t l).mem_iff.1 hx) with h | h
      · exact .inr ⟨t, List.mem_cons_self, h⟩
      · exact .inl ⟨l, List.mem_cons_self, h⟩
    · rcases addZ_in r s x ⟨z, hz, hx⟩ with h | h
      · exact .inl h.cons
      · exact .inr h.cons
theorem addZ_ne : ∀ (L T : Lv), L ≠ [] ∨ T ≠ [] → addZ L T ≠ []
  | [], [], h => by simp at h
  | [], t :: s, _ => by simp [addZ]
  | l :: r, [], _ => by simp [addZ]
  | l :: r, t :: s, _ => by simp [addZ]
theorem puts1_ne {a b : List Int} (h : a ≠ [] ∨ b ≠ []) : puts1 a b ≠ [] := by
  intro e
  have := puts1_len a b
  rw [e, List.length_nil] at this
  rcases h with h | h
  · exact h (List.eq_nil_of_length_eq_zero (by omega))
  · exact h (List.eq_nil_of_length_eq_zero (by omega))
theorem addZ_top : ∀ (L T : Lv), Top L → Top T → Top (addZ L T)
  | [], [], _, _ => trivial
  | [], t :: s, hL, hT => by
    have ih := addZ_top [] s hL hT.tail
    rw [addZ, List.map_cons]
    rw [addZ] at ih
    cases s with
    | nil => exact puts1_ne (.inr hT)
    | cons y s => exact Top.cons (by simp) ih
  | l :: r, [], hL, _ => hL
  | l :: r, t :: s, hL, hT => by
    have ih := addZ_top r s hL.tail hT.tail
    rw [addZ]
    by_cases h : addZ r s = []
    · rw [h]
      have hr : r = [] := Classical.byContradiction fun h2 => addZ_ne r s (.inl h2) h
      have hs : s = [] := Classical.byContradiction fun h2 => addZ_ne r s (.inr h2) h
      subst hr
      exact puts1_ne (.inl hL)
    · exact Top.cons h ih
/-- a value comes so often: it is put by the bits, from h on -/
def addB (L : Lv) (v : Int) (n : Nat) : Nat → Lv
  | 0 => L
  | h + 1 => if n / 2 ^ h % 2 = 1 then putL (addB L v n h) h v else addB L v n h
def addN (L : Lv) (v : Int) (n : Nat) : Lv := addB L v n 49
theorem addB_cnt (P : Int → Bool) (L : Lv) (v : Int) (n : Nat) : ∀ h, cntL P (addB L v n h) = cntL P L + (if P v then n % 2 ^ h else 0)
  | 0 => by simp [addB, Nat.mod_one]
  | h + 1 => by
    have e : n % 2 ^ (h + 1) = n % 2 ^ h + 2 ^ h * (n / 2 ^ h % 2) := Nat.mod_pow_succ
    rw [addB]
    split
    · rename_i hb
      rw [putL_cnt, addB_cnt P L v n h, e, hb]
      split <;> omega
    · rename_i hb
      have : n / 2 ^ h % 2 = 0 := by omega
      rw [addB_cnt P L v n h, e, this]
      split <;> omega
theorem addN_cnt (P : Int → Bool) (L : Lv) (v : Int) (n : Nat) (hn : n ≤ 281474976710656) : cntL P (addN L v n) = cntL P L + (if P v then n else 0) := by
  unfold addN
  rw [addB_cnt, Nat.mod_eq_of_lt (Nat.lt_of_le_of_lt hn (by decide))]
theorem addN_wt (L : Lv) (v : Int) (n : Nat) (hn : n ≤ 281474976710656) : wtL (addN L v n) = wtL L + n := by
  have := addN_cnt (fun _ => true) L v n hn
  simpa [wtL] using this
theorem addB_same (L : Lv) (v : Int) (n : Nat) (h : Nat) (hz : n / 2 ^ h = 0) : ∀ d, addB L v n (h + d) = addB L v n h
  | 0 => rfl
  | d + 1 => by
    have h0 : n / 2 ^ (h + d) = 0 := by
      have h1 := (Nat.div_eq_zero_iff).1 hz
      rcases h1 with h1 | h1
      · have : 0 < 2 ^ h := Nat.pow_pos (by decide)
        omega
      · exact Nat.div_eq_of_lt (Nat.lt_of_lt_of_le h1 (Nat.pow_le_pow_right (by decide) (by omega)))
    rw [← Nat.add_assoc, addB, h0, if_neg (by decide), addB_same L v n h hz d]
theorem addB_ind (P : Lv → Prop) (L : Lv) (v : Int) (n : Nat) (h0 : P L) (hs : ∀ M h, P M → P (putL M h v)) : ∀ h, P (addB L v n h)
  | 0 => h0
  | h + 1 => by
    rw [addB]
    split
    · exact hs _ _ (addB_ind P L v n h0 hs h)
    · exact addB_ind P L v n h0 hs h
theorem addN_asc (L : Lv) (v : Int) (n : Nat) (h : AscL L) : AscL (addN L v n) := addB_ind _ L v n h (fun M h hM => putL_asc v M h hM) 49
theorem addN_top (L : Lv) (v : Int) (n : Nat) (h : Top L) : Top (addN L v n) := addB_ind _ L v n h (fun M h hM => putL_top v M h hM) 49
theorem addN_in (L : Lv) (v : Int) (n : Nat) : ∀ x, InL (addN L v n) x → x = v ∨ InL L x :=
  addB_ind (fun M => ∀ x, InL M x → x = v ∨ InL L x) L v n (fun _ h => .inr h) (fun M h hM x hx => (putL_in v M h x hx).elim .inl (hM x)) 49
theorem addB_kept (L : Lv) (v : Int) (n : Nat) : ∀ h, kept (addB L v n h) ≤ kept L + h
  | 0 => Nat.le_refl _
  | h + 1 => by
    have := addB_kept L v n h
    rw [addB]
    split
    · rw [putL_kept]; omega
    · omega
theorem addB_len (L : Lv) (v : Int) (n : Nat) : ∀ h, (addB L v n h).length ≤ max L.length h
  | 0 => by simp [addB]
  | h + 1 => by
    have := addB_len L v n h
    rw [addB]
    split
    · rw [putL_len]; omega
    · omega
end Go.Proofs.Ytbpfmjekpjfceaa
