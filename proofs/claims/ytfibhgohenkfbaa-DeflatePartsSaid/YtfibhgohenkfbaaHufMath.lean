/- Codes by their lengths, as numbers. -/
import Derived.Test.YtfibhgohenkfbaaBitWr
namespace Go.Proofs.Ytfibhgohenkfbaa

/-- how many symbols have codes of n bits -/
def mny (l : List Nat) (n : Nat) : Nat := if n = 0 then 0 else l.count n
/-- what the codes up to n bits take, in parts of 2^n -/
def top (l : List Nat) : Nat → Nat
  | 0 => 0
  | n + 1 => 2 * top l n + mny l (n + 1)
/-- the least code of n bits -/
def fst (l : List Nat) : Nat → Nat
  | 0 => 0
  | n + 1 => 2 * top l n
/-- how many codes are shorter than n bits -/
def ahd (l : List Nat) : Nat → Nat
  | 0 => 0
  | n + 1 => ahd l n + mny l n
/-- the symbol's length -/
def len (l : List Nat) (i : Nat) : Nat := l.getD i 0
/-- how many lesser symbols have its length -/
def rnk (l : List Nat) (i : Nat) : Nat := (l.take i).count (len l i)
/-- the symbol's code -/
def cod (l : List Nat) (i : Nat) : Nat := if len l i = 0 then 0 else fst l (len l i) + rnk l i
def cods (l : List Nat) : List Nat := (List.range l.length).map (cod l)
/-- the greatest length -/
def mx : List Nat → Nat
  | [] => 0
  | x :: r => max x (mx r)

theorem mny_zero (l : List Nat) : mny l 0 = 0 := rfl
theorem mny_succ (l : List Nat) (n : Nat) : mny l (n + 1) = l.count (n + 1) := rfl
theorem mny_pos (l : List Nat) {n : Nat} (h : 0 < n) : mny l n = l.count n := by unfold mny; rw [if_neg (by omega)]
theorem mny_le (l : List Nat) (n : Nat) : mny l n ≤ l.length := by
  unfold mny
  split
  · omega
  · exact List.count_le_length
theorem top_eq (l : List Nat) (n : Nat) : top l n = fst l n + mny l n := by
  cases n with
  | zero => rfl
  | succ n => rfl
theorem fst_succ (l : List Nat) (n : Nat) : fst l (n + 1) = 2 * top l n := rfl
theorem ahd_succ (l : List Nat) (n : Nat) : ahd l (n + 1) = ahd l n + mny l n := rfl
theorem ahd_mono (l : List Nat) (n : Nat) : ∀ k, ahd l n ≤ ahd l (n + k)
  | 0 => Nat.le_refl _
  | k + 1 => Nat.le_trans (ahd_mono l n k) (by rw [← Nat.add_assoc, ahd_succ]; omega)
theorem ahd_le (l : List Nat) : ∀ n, ahd l n ≤ n * l.length
  | 0 => Nat.zero_le _
  | n + 1 => by have := ahd_le l n; have := mny_le l n; rw [ahd_succ, Nat.succ_mul]; omega
theorem top_le (l : List Nat) : ∀ n, top l n ≤ (2 ^ (n + 1) - 1) * l.length
  | 0 => Nat.zero_le _
  | n + 1 => by
    have h := top_le l n
    have k := mny_le l (n + 1)
    have hp : 1 ≤ 2 ^ (n + 1) := Nat.pow_pos (by decide)
    have e : (2 ^ (n + 1 + 1) - 1) * l.length = 2 * ((2 ^ (n + 1) - 1) * l.length) + l.length := by
      rw [Nat.sub_mul, Nat.sub_mul, Nat.pow_succ 2 (n + 1), Nat.mul_comm (2 ^ (n + 1)) 2, Nat.mul_assoc, Nat.one_mul]
      have : l.length ≤ 2 ^ (n + 1) * l.length := Nat.le_mul_of_pos_left _ hp
      omega
    rw [top, e]
    omega
theorem top_small (l : List Nat) (n : Nat) (hn : n ≤ 15) (hl : l.length ≤ 1000) : top l n ≤ 65535000 := by
  refine Nat.le_trans (top_le l n) ?_
  have h1 : 2 ^ (n + 1) ≤ 2 ^ 16 := Nat.pow_le_pow_right (by decide) (by omega)
  calc (2 ^ (n + 1) - 1) * l.length ≤ 65535 * 1000 := Nat.mul_le_mul (by omega) hl
    _ = 65535000 := by decide
theorem fst_small (l : List Nat) (n : Nat) (hn : n ≤ 15) (hl : l.length ≤ 1000) : fst l n ≤ 65535000 := by
  have := top_small l n hn hl
  rw [top_eq] at this
  omega
theorem ahd_small (l : List Nat) (n : Nat) (hn : n ≤ 16) (hl : l.length ≤ 1000) : ahd l n ≤ 16000 :=
  Nat.le_trans (ahd_le l n) (Nat.mul_le_mul hn hl)

theorem len_get (l : List Nat) (i : Nat) (h : i < l.length) : len l i = l[i] := by simp [len, List.getD, h]
theorem len_no (l : List Nat) (i : Nat) (h : l.length ≤ i) : len l i = 0 := by simp [len, List.getD, h]
theorem len_in {l : List Nat} {i : Nat} (h : 0 < len l i) : i < l.length := by
  by_cases k : i < l.length
  · exact k
  · rw [len_no l i (by omega)] at h; omega
theorem cods_length (l : List Nat) : (cods l).length = l.length := by simp [cods]
theorem cods_get (l : List Nat) (i : Nat) (h : i < (cods l).length) : (cods l)[i] = cod l i := by simp [cods]
theorem mx_len : ∀ (l : List Nat) (i : Nat), len l i ≤ mx l
  | [], i => by simp [len]
  | x :: r, 0 => by simp only [len, List.getD_cons_zero, mx]; omega
  | x :: r, i + 1 => by
    have := mx_len r i
    unfold len at this ⊢
    rw [List.getD_cons_succ, mx]
    omega
theorem mx_append (l m : List Nat) : mx (l ++ m) = max (mx l) (mx m) := by
  induction l with
  | nil => simp [mx]
  | cons x r ih => rw [List.cons_append, mx, ih, mx]; omega
theorem mx_le {l : List Nat} {n : Nat} (h : ∀ x ∈ l, x ≤ n) : mx l ≤ n := by
  induction l with
  | nil => exact Nat.zero_le _
  | cons x r ih =>
    rw [mx]
    have := h x (by simp)
    have := ih fun y hy => h y (by simp [hy])
    omega
theorem take_snoc (l : List Nat) (k : Nat) (h : k < l.length) : l.take (k + 1) = l.take k ++ [l[k]] := by
  rw [List.take_succ_eq_append_getElem h]
theorem mx_take (l : List Nat) (k : Nat) (h : k < l.length) : mx (l.take (k + 1)) = max (mx (l.take k)) (len l k) := by
  rw [take_snoc l k h, mx_append, len_get l k h]
  simp [mx]
theorem count_take (l : List Nat) (n k : Nat) (h : k < l.length) : (l.take (k + 1)).count n = (l.take k).count n + if len l k = n then 1 else 0 := by
  rw [take_snoc l k h, List.count_append, len_get l k h, List.count_singleton]
  by_cases e : l[k] = n
  · rw [if_pos e, if_pos (by rw [e]; exact beq_self_eq_true n)]
  · rw [if_neg e, if_neg (by rw [beq_iff_eq]; exact e)]
theorem count_le (l : List Nat) (n k : Nat) : (l.take k).count n ≤ l.count n :=
  (List.take_sublist k l).count_le n
theorem rnk_lt {l : List Nat} {i : Nat} (h : i < l.length) : rnk l i < l.count (len l i) := by
  have h1 := count_take l (len l i) i h
  have h2 := count_le l (len l i) (i + 1)
  rw [if_pos rfl] at h1
  unfold rnk
  omega
theorem count_mono (l : List Nat) (n i : Nat) : ∀ k, (l.take i).count n ≤ (l.take (i + k)).count n
  | k => by
    have e : (l.take (i + k)).take i = l.take i := by rw [List.take_take, Nat.min_eq_left (by omega)]
    have := count_le (l.take (i + k)) n i
    rw [e] at this
    exact this
/-- like lengths, like ranks: one symbol -/
theorem rnk_inj {l : List Nat} {i k : Nat} (hi : i < l.length) (hk : k < l.length) (h : len l i = len l k) (hr : rnk l i = rnk l k) : i = k := by
  have key : ∀ i k : Nat, i < l.length → i < k → len l i = len l k → rnk l i < rnk l k := by
    intro i k hi hik h
    have h1 := count_take l (len l i) i hi
    have h2 := count_mono l (len l i) (i + 1) (k - (i + 1))
    rw [show i + 1 + (k - (i + 1)) = k by omega] at h2
    rw [if_pos rfl] at h1
    unfold rnk
    rw [← h]
    omega
  rcases Nat.lt_trichotomy i k with h' | h' | h'
  · have := key i k hi h' h; omega
  · exact h'
  · have := key k i hk h' h.symm; omega
/-- each rank has its symbol -/
theorem rnk_ex (n : Nat) (hn : 0 < n) : ∀ (l : List Nat) (k : Nat), k < l.count n → ∃ i, i < l.length ∧ len l i = n ∧ (l.take i).count n = k
  | [], k, h => by simp at h
  | x :: r, k, h => by
    by_cases e : x = n
    · subst e
      cases k with
      | zero => exact ⟨0, by simp, by simp [len], by simp⟩
      | succ k =>
        rw [List.count_cons_self] at h
        obtain ⟨i, h1, h2, h3⟩ := rnk_ex x hn r k (by omega)
        exact ⟨i + 1, by simp; omega, by simpa [len] using h2, by rw [List.take_succ_cons, List.count_cons_self, h3]⟩
    · rw [List.count_cons_of_ne e] at h
      obtain ⟨i, h1, h2, h3⟩ := rnk_ex n hn r k h
      exact ⟨i + 1, by simp; omega, by simpa [len] using h2, by rw [List.take_succ_cons, List.count_cons_of_ne e, h3]⟩

theorem cod_pos {l : List Nat} {i : Nat} (h : 0 < len l i) : cod l i = fst l (len l i) + rnk l i := by unfold cod; rw [if_neg (by omega)]
theorem cod_lt {l : List Nat} {i : Nat} (h : 0 < len l i) : cod l i < top l (len l i) := by
  rw [cod_pos h, top_eq, mny_pos l h]
  have := rnk_lt (len_in h)
  omega
theorem cod_ge {l : List Nat} {i : Nat} (h : 0 < len l i) : fst l (len l i) ≤ cod l i := by rw [cod_pos h]; omega
theorem cod_inj {l : List Nat} {i k : Nat} (hi : 0 < len l i) (h : len l i = len l k) (hc : cod l i = cod l k) : i = k := by
  have hk : 0 < len l k := h ▸ hi
  rw [cod_pos hi, cod_pos hk, h] at hc
  exact rnk_inj (len_in hi) (len_in hk) h (by omega)
theorem top_grow (l : List Nat) (n : Nat) : ∀ k, top l n * 2 ^ k ≤ top l (n + k)
  | 0 => by simp
  | k + 1 => by
    have := top_grow l n k
    rw [← Nat.add_assoc, top, Nat.pow_succ]
    have e : top l n * (2 ^ k * 2) = 2 * (top l n * 2 ^ k) := by rw [← Nat.mul_assoc]; omega
    omega
theorem fst_grow (l : List Nat) (n k : Nat) : top l n * 2 ^ (k + 1) ≤ fst l (n + k + 1) := by
  have := top_grow l n k
  rw [fst_succ, Nat.pow_succ]
  have e : top l n * (2 ^ k * 2) = 2 * (top l n * 2 ^ k) := by rw [← Nat.mul_assoc]; omega
  omega
/-- no code begins with another one -/
theorem cod_apart {l : List Nat} {i k : Nat} (hi : 0 < len l i) (hk : len l i ≤ len l k) (hne : i ≠ k) : cod l k / 2 ^ (len l k - len l i) ≠ cod l i := by
  have hk0 : 0 < len l k := by omega
  by_cases e : len l i = len l k
  · rw [e, Nat.sub_self, Nat.pow_zero, Nat.div_one]
    exact fun h => hne (cod_inj hi e h.symm)
  · obtain ⟨d, hd⟩ : ∃ d, len l k = len l i + d + 1 := ⟨len l k - len l i - 1, by omega⟩
    have h1 := fst_grow l (len l i) d
    rw [← hd] at h1
    have h2 := cod_ge hk0
    have h3 := cod_lt hi
    rw [show len l k - len l i = d + 1 by omega]
    have h4 : top l (len l i) ≤ cod l k / 2 ^ (d + 1) := (Nat.le_div_iff_mul_le (Nat.pow_pos (by decide))).2 (by omega)
    omega

/-- what the counting up of the parts has -/
def prt (l : List Nat) : Nat → Nat
  | 0 => 0
  | n + 1 => top l n * 2 ^ (15 - n)
theorem prt_succ (l : List Nat) (n : Nat) (hn : n ≤ 15) : prt l (n + 1) = prt l n + mny l n * 2 ^ (15 - n) := by
  cases n with
  | zero => simp [prt, top, mny]
  | succ n =>
    simp only [prt, top]
    rw [Nat.add_mul]
    congr 1
    rw [show 15 - n = 15 - (n + 1) + 1 by omega, Nat.pow_succ]
    rw [Nat.mul_comm (2 ^ (15 - (n + 1))) 2, ← Nat.mul_assoc, Nat.mul_comm (top l n) 2]
theorem prt_end (l : List Nat) : prt l 16 = top l 15 := by simp [prt]
theorem prt_le (l : List Nat) (n : Nat) (hn : n ≤ 16) : prt l n ≤ top l 15 := by
  cases n with
  | zero => exact Nat.zero_le _
  | succ n =>
    have := top_grow l n (15 - n)
    rw [show n + (15 - n) = 15 by omega] at this
    exact this

/-- what a symbol's code takes of 2^15 -/
def took (x : Nat) : Nat := if x = 0 then 0 else 2 ^ (15 - x)
def tooks : List Nat → Nat
  | [] => 0
  | x :: r => took x + tooks r
theorem tooks_append (l m : List Nat) : tooks (l ++ m) = tooks l + tooks m := by
  induction l with
  | nil => simp [tooks]
  | cons x r ih => rw [List.cons_append, tooks, tooks, ih]; omega
theorem tooks_take (l : List Nat) (k : Nat) (h : k < l.length) : tooks (l.take (k + 1)) = tooks (l.take k) + took (len l k) := by
  rw [take_snoc l k h, tooks_append, len_get l k h]
  simp [tooks]
theorem top_cons (x : Nat) (r : List Nat) : ∀ n, top (x :: r) n = top r n + if 1 ≤ x ∧ x ≤ n then 2 ^ (n - x) else 0
  | 0 => by rw [if_neg (by omega)]; rfl
  | n + 1 => by
    rw [top, top_cons x r n, top, mny_succ, mny_succ, List.count_cons]
    by_cases h : 1 ≤ x ∧ x ≤ n
    · rw [if_pos h, if_pos (show 1 ≤ x ∧ x ≤ n + 1 by omega), show n + 1 - x = n - x + 1 by omega, Nat.pow_succ, if_neg (by rw [beq_iff_eq]; omega)]
      omega
    · by_cases e : x = n + 1
      · subst e
        rw [if_neg h, if_pos (beq_self_eq_true _), if_pos (show 1 ≤ n + 1 ∧ n + 1 ≤ n + 1 by omega), Nat.sub_self]
        omega
      · rw [if_neg h, if_neg (by rw [beq_iff_eq]; exact e), if_neg (show ¬ (1 ≤ x ∧ x ≤ n + 1) by omega)]
        omega
theorem top_tooks : ∀ (l : List Nat), (∀ x ∈ l, x ≤ 15) → top l 15 = tooks l
  | [], _ => by decide
  | x :: r, h => by
    rw [top_cons, tooks, top_tooks r fun y hy => h y (by simp [hy])]
    have hx := h x (by simp)
    unfold took
    by_cases e : x = 0
    · rw [if_pos e, if_neg (by omega)]; omega
    · rw [if_neg e, if_pos (by omega)]; omega
theorem tooks_le (l : List Nat) : tooks l ≤ 32768 * l.length := by
  induction l with
  | nil => simp [tooks]
  | cons x r ih =>
    rw [tooks, List.length_cons]
    have : took x ≤ 2 ^ 15 := by
      unfold took
      split
      · omega
      · exact Nat.pow_le_pow_right (by decide) (by omega)
    omega

/-- how many symbols have codes -/
def some' (l : List Nat) : Nat := l.countP (0 < ·)
theorem some_take (l : List Nat) (k : Nat) (h : k < l.length) : some' (l.take (k + 1)) = some' (l.take k) + if 0 < len l k then 1 else 0 := by
  unfold some'
  rw [take_snoc l k h, List.countP_append, len_get l k h]
  simp [List.countP_cons]
theorem some_zero : ∀ (l : List Nat), some' l = 0 ↔ mx l = 0
  | [] => by simp [some', mx]
  | x :: r => by
    have := some_zero r
    unfold some' at this ⊢
    rw [List.countP_cons, mx]
    by_cases h : 0 < x
    · simp [h]; omega
    · obtain rfl : x = 0 := by omega
      simp [this]
/-- the last length -/
def lst : List Nat → Nat
  | [] => 0
  | x :: r => if some' r = 0 then x else lst r
theorem lst_zero : ∀ (l : List Nat), some' l = 0 → lst l = 0
  | [], _ => rfl
  | x :: r, h => by
    have h' : some' r = 0 ∧ x = 0 := by
      unfold some' at h ⊢
      rw [List.countP_cons] at h
      by_cases e : 0 < x
      · simp [e] at h
      · exact ⟨by omega, by omega⟩
    rw [lst, if_pos h'.1, h'.2]
theorem lst_append (x : Nat) : ∀ (l : List Nat), lst (l ++ [x]) = if 0 < x then x else lst l
  | [] => by
    simp only [List.nil_append, lst, some', List.countP_nil, if_pos]
    split <;> omega
  | y :: r => by
    rw [List.cons_append, lst, lst_append x r, lst]
    have : some' (r ++ [x]) = some' r + if 0 < x then 1 else 0 := by simp [some', List.countP_cons]
    rw [this]
    by_cases h : 0 < x
    · simp [h]
    · simp [h]
theorem lst_take (l : List Nat) (k : Nat) (h : k < l.length) : lst (l.take (k + 1)) = if 0 < len l k then len l k else lst (l.take k) := by
  rw [take_snoc l k h, lst_append, len_get l k h]
/-- just one symbol, of length 1, both ways -/
theorem lone_iff : ∀ (l : List Nat), (some' l = 1 ∧ lst l = 1) ↔ (mx l = 1 ∧ l.count 1 = 1)
  | [] => by simp [some', mx]
  | x :: r => by
    have ih := lone_iff r
    have hz := some_zero r
    have hs : some' (x :: r) = some' r + if 0 < x then 1 else 0 := by unfold some'; rw [List.countP_cons]; simp
    have hc : (x :: r).count 1 = r.count 1 + if x = 1 then 1 else 0 := by rw [List.count_cons]; simp
    have h0 : mx r = 0 → r.count 1 = 0 := by
      intro h
      refine List.count_eq_zero.2 fun hm => ?_
      obtain ⟨i, hi, e⟩ := List.mem_iff_getElem.1 hm
      have := mx_len r i
      rw [len_get r i hi, e] at this
      omega
    rw [hs, hc, lst, mx]
    by_cases e : x = 0
    · subst e
      by_cases h : some' r = 0
      · have := hz.1 h
        have := h0 this
        simp [h]
        omega
      · simp only [h, if_neg, Nat.lt_irrefl, Nat.add_zero, not_false_eq_true]
        simpa using ih
    · by_cases h : some' r = 0
      · have h1 := hz.1 h
        have h2 := h0 h1
        rw [if_pos (by omega), if_pos h, h, h1, h2]
        constructor
        · rintro ⟨-, rfl⟩; simp
        · rintro ⟨h3, -⟩; omega
      · rw [if_pos (by omega)]
        constructor
        · rintro ⟨h3, -⟩; omega
        · rintro ⟨h3, h4⟩
          have : mx r ≠ 0 := fun q => h (hz.2 q)
          exfalso
          by_cases ex : x = 1
          · subst ex
            have hr : r.count 1 = 0 := by simpa using h4
            have hm : mx r = 1 := by omega
            have key : ∀ q : List Nat, mx q = 1 → 0 < q.count 1 := by
              intro q
              induction q with
              | nil => intro hq; simp [mx] at hq
              | cons y s ihs =>
                intro hq
                rw [mx] at hq
                by_cases ey : y = 1
                · subst ey; simp
                · have := ihs (by omega)
                  rw [List.count_cons]; omega
            have := key r hm
            omega
          · omega

/-- full -/
def ful (l : List Nat) : Prop := top l 15 = 32768
/-- lone -/
def lon (l : List Nat) : Prop := mx l = 1 ∧ l.count 1 = 1
/-- which lengths are a set's -/
def okl (l : List Nat) : Prop := ful l ∨ lon l ∨ mx l = 0
instance (l : List Nat) : Decidable (ful l) := inferInstanceAs (Decidable (_ = _))
instance (l : List Nat) : Decidable (lon l) := inferInstanceAs (Decidable (_ ∧ _))
instance (l : List Nat) : Decidable (okl l) := inferInstanceAs (Decidable (_ ∨ _))

theorem mny_above {l : List Nat} {n : Nat} (h : mx l < n) : mny l n = 0 := by
  rw [mny_pos l (by omega)]
  refine List.count_eq_zero.2 fun hm => ?_
  obtain ⟨i, hi, e⟩ := List.mem_iff_getElem.1 hm
  have := mx_len l i
  rw [len_get l i hi, e] at this
  omega
theorem top_above (l : List Nat) (n : Nat) (h : mx l ≤ n) : ∀ k, top l (n + k) = top l n * 2 ^ k
  | 0 => by simp
  | k + 1 => by
    have e : top l n * (2 ^ k * 2) = 2 * (top l n * 2 ^ k) := by rw [← Nat.mul_assoc]; omega
    rw [← Nat.add_assoc, top, top_above l n h k, mny_above (by omega), Nat.pow_succ, e]; rfl
theorem top_nil {l : List Nat} (h : mx l = 0) (n : Nat) : top l n = 0 := by
  have := top_above l 0 (by omega) n
  simpa [top] using this
theorem top_lon {l : List Nat} (h : lon l) : top l 1 = 1 := by
  simp [top, mny_succ, h.2]
theorem okl_top {l : List Nat} (h : okl l) : top l 15 ≤ 32768 := by
  rcases h with h | h | h
  · exact Nat.le_of_eq h
  · have := top_above l 1 (by rw [h.1]; omega) 14
    rw [top_lon h] at this
    have e : top l 15 = top l (1 + 14) := rfl
    rw [e, this]
    decide
  · rw [top_nil h]; omega
theorem top_two {l : List Nat} (h : okl l) (n : Nat) (hn : n ≤ 15) : top l n ≤ 2 ^ n := by
  have h1 := top_grow l n (15 - n)
  rw [show n + (15 - n) = 15 by omega] at h1
  have h2 := okl_top h
  have h3 : (2 : Nat) ^ n * 2 ^ (15 - n) = 32768 := by rw [← Nat.pow_add, show n + (15 - n) = 15 by omega]
  have hp : 0 < 2 ^ (15 - n) := Nat.pow_pos (by decide)
  refine Nat.le_of_mul_le_mul_right ?_ hp
  omega
theorem ful_end {l : List Nat} (h : ful l) (hm : mx l ≤ 15) : top l (mx l) = 2 ^ mx l := by
  have h1 := top_above l (mx l) (Nat.le_refl _) (15 - mx l)
  rw [show mx l + (15 - mx l) = 15 by omega, show top l 15 = 32768 from h] at h1
  have h3 : (2 : Nat) ^ mx l * 2 ^ (15 - mx l) = 32768 := by rw [← Nat.pow_add, show mx l + (15 - mx l) = 15 by omega]
  have hp : 0 < 2 ^ (15 - mx l) := Nat.pow_pos (by decide)
  exact Nat.eq_of_mul_eq_mul_right hp (by omega)
theorem cod_two {l : List Nat} (h : okl l) {i : Nat} (hi : 0 < len l i) (hm : mx l ≤ 15) : cod l i < 2 ^ len l i :=
  Nat.lt_of_lt_of_le (cod_lt hi) (top_two h _ (Nat.le_trans (mx_len l i) hm))

/-- bits as a number, the highest one first -/
def val (B : List Nat) : Nat := num B.reverse
theorem val_snoc (B : List Nat) (b : Nat) : val (B ++ [b]) = 2 * val B + b := by
  unfold val
  rw [List.reverse_append]
  simp [num]; omega
theorem val_lt {B : List Nat} (h : Bit01 B) : val B < 2 ^ B.length := by
  have := num_lt B.reverse h.rev
  rwa [List.length_reverse] at this
theorem val_code (n c : Nat) : val (code n c) = n % 2 ^ c := by
  unfold val code
  rw [List.reverse_reverse, num_grp]
theorem val_inj {A B : List Nat} (ha : Bit01 A) (hb : Bit01 B) (hl : A.length = B.length) (h : val A = val B) : A = B := by
  have h1 := grp_num A.reverse ha.rev
  have h2 := grp_num B.reverse hb.rev
  have e : A.reverse.length = B.reverse.length := by rw [List.length_reverse, List.length_reverse, hl]
  rw [show num A.reverse = num B.reverse from h, e, h2] at h1
  have := congrArg List.reverse h1
  simpa using this.symm
theorem val_take (B : List Nat) (j : Nat) (h : j < B.length) : val (B.take (j + 1)) = 2 * val (B.take j) + B[j] := by
  rw [take_snoc B j h, val_snoc]
theorem val_fall {B : List Nat} (hb : Bit01 B) {l : List Nat} : ∀ (d j : Nat), j + d ≤ B.length → 0 < d → fst l (j + d) ≤ val (B.take (j + d)) → top l j ≤ val (B.take j)
  | 0, j, _, h, _ => by omega
  | 1, j, h, _, hv => by
    have h1 := val_take B j (by omega)
    have := hb _ (List.getElem_mem (show j < B.length by omega))
    rw [fst_succ] at hv
    omega
  | d + 2, j, h, _, hv => by
    have h1 := val_take B (j + d + 1) (by omega)
    have := hb _ (List.getElem_mem (show j + d + 1 < B.length by omega))
    rw [show j + (d + 2) = j + d + 1 + 1 by omega, fst_succ] at hv
    refine val_fall hb (d + 1) j (by omega) (by omega) ?_
    have := top_eq l (j + d + 1)
    rw [show j + (d + 1) = j + d + 1 by omega]
    omega
/-- the symbol i stands ahead in the bits -/
def hits (l B : List Nat) (i : Nat) : Prop := 0 < len l i ∧ len l i ≤ B.length ∧ val (B.take (len l i)) = cod l i
instance (l B : List Nat) (i : Nat) : Decidable (hits l B i) := inferInstanceAs (Decidable (_ ∧ _ ∧ _))
/-- none does up to j bits -/
def dry (l B : List Nat) (j : Nat) : Prop := top l j ≤ val (B.take j)
theorem dry_zero (l B : List Nat) : dry l B 0 := by simp [dry, top, val, num]
theorem dry_ge {l B : List Nat} {j : Nat} (h : dry l B j) (hj : j < B.length) : fst l (j + 1) ≤ val (B.take (j + 1)) := by
  rw [val_take B j hj, fst_succ]
  unfold dry at h
  omega
theorem hit_here {l B : List Nat} {j : Nat} (h : dry l B j) (hj : j < B.length) (k : val (B.take (j + 1)) < top l (j + 1)) :
    ∃ i, hits l B i ∧ len l i = j + 1 ∧ rnk l i = val (B.take (j + 1)) - fst l (j + 1) := by
  have h1 := dry_ge h hj
  have h2 := top_eq l (j + 1)
  obtain ⟨i, hi, hl, hr⟩ := rnk_ex (j + 1) (by omega) l (val (B.take (j + 1)) - fst l (j + 1)) (by rw [← mny_succ]; omega)
  have hp : 0 < len l i := by omega
  refine ⟨i, ⟨hp, by omega, ?_⟩, hl, ?_⟩
  · rw [cod_pos hp, rnk, hl, hr]; omega
  · rw [rnk, hl, hr]
theorem hits_dry {l B : List Nat} (hb : Bit01 B) {i : Nat} (h : hits l B i) {j : Nat} (hj : j < len l i) : dry l B j := by
  refine val_fall hb (len l i - j) j (by have := h.2.1; omega) (by omega) ?_
  rw [show j + (len l i - j) = len l i by omega, h.2.2]
  exact cod_ge h.1
theorem hits_wet {l B : List Nat} {i : Nat} (h : hits l B i) : ¬ dry l B (len l i) := by
  unfold dry
  rw [h.2.2]
  have := cod_lt h.1
  omega
theorem hits_one {l B : List Nat} (hb : Bit01 B) {i k : Nat} (h : hits l B i) (h' : hits l B k) : i = k := by
  rcases Nat.lt_trichotomy (len l i) (len l k) with e | e | e
  · exact absurd (hits_dry hb h' e) (hits_wet h)
  · exact cod_inj h.1 e (by rw [← h.2.2, ← h'.2.2, e])
  · exact absurd (hits_dry hb h e) (hits_wet h')
/-- a full set has a symbol for any bits -/
theorem ful_hit {l B : List Nat} (hb : Bit01 B) (h : ful l) (hm : mx l ≤ 15) (hB : mx l ≤ B.length) : ∃ i, hits l B i := by
  have hw : ¬ dry l B (mx l) := by
    unfold dry
    rw [ful_end h hm]
    have := val_lt (hb.sub (m := B.take (mx l)) fun _ hx => List.mem_of_mem_take hx)
    rw [List.length_take, Nat.min_eq_left hB] at this
    omega
  have key : ∀ j, j ≤ mx l → ¬ dry l B j → ∃ i, hits l B i := by
    intro j
    induction j with
    | zero => intro _ h; exact absurd (dry_zero l B) h
    | succ j ih =>
      intro hj hn
      by_cases hd : dry l B j
      · obtain ⟨i, hi, -⟩ := hit_here hd (by omega) (by unfold dry at hn; omega)
        exact ⟨i, hi⟩
      · exact ih (by omega) hd
  exact key _ (Nat.le_refl _) hw
end Go.Proofs.Ytfibhgohenkfbaa
