/- Plain mathematics: what was written is read; what was read is written; what is cut off ended. -/
import Derived.Test.YtgjiepbaagmmiaaGetSpec
import Derived.Test.YtgjiepbaagmmiaaPut
import Derived.Test.YtgjiepbaagmmiaaGet
namespace Go.Proofs.Ytgjiepbaagmmiaa
open Go.RowKit

theorem lDec_lEnc : ∀ (m n : Nat), lDec (lEnc m n) = n % 256 ^ m
  | 0, n => by simp [lEnc, lDec, Nat.mod_one]
  | m + 1, n => by
    rw [lEnc, lDec, lDec_lEnc m, Nat.pow_succ, Nat.mul_comm (256 ^ m) 256, Nat.mod_mul]
theorem lEnc_lDec : ∀ (l : List Nat), (∀ x ∈ l, x < 256) → lEnc l.length (lDec l) = l
  | [], _ => rfl
  | b :: r, h => by
    have hb := h b (by simp)
    rw [List.length_cons, lDec, show b + 256 * lDec r = 256 * lDec r + b by omega, lEnc_step _ _ _ hb, lEnc_lDec r fun x hx => h x (by simp [hx])]
theorem lEnc_lt : ∀ (m n : Nat), ∀ x ∈ lEnc m n, x < 256
  | 0, _ => by simp [lEnc]
  | m + 1, n => by
    intro x hx
    rw [lEnc, List.mem_cons] at hx
    rcases hx with rfl | hx
    · omega
    · exact lEnc_lt m _ x hx
theorem turn_lt (n m : Nat) (hn : n < 18446744073709551616) (hm : m ≤ 8) : turn n m < 256 ^ m := by
  obtain ⟨r, hr, hlt⟩ := rev_nat n hn
  unfold turn
  rw [hr, Int.toNat_natCast]
  have e : 256 ^ m = 2 ^ (8 * m) := by rw [Nat.pow_mul]
  have f : 2 ^ (8 * m) * 2 ^ (64 - 8 * m) = 18446744073709551616 := by
    rw [← Nat.pow_add, show 8 * m + (64 - 8 * m) = 64 by omega]
  rw [e]
  refine Nat.div_lt_of_lt_mul ?_
  rw [Nat.mul_comm, f]
  exact hlt
/-- bytes the highest first are a number whose bytes are in the other order -/
theorem turn_rev (l : List Nat) (h : ∀ x ∈ l, x < 256) (hm : l.length = 2 ∨ l.length = 4 ∨ l.length = 8) : lEnc l.length (turn (lDec l) l.length) = l.reverse := by
  rw [(turn_enc _ _ (lDec_lt8 l h (by omega)) hm).1, lEnc_lDec l h]
theorem pow256_le (m : Nat) (h : m ≤ 8) : 256 ^ m ≤ 18446744073709551616 := by
  have : 256 ^ m ≤ 256 ^ 8 := Nat.pow_le_pow_right (by decide) h
  rwa [show (256 : Nat) ^ 8 = 18446744073709551616 by decide] at this

/-! ### What was written is read -/
theorem fDec_back (m n : Nat) (r : List Nat) (hn : n < 256 ^ m) : fDec m (lEnc m n ++ r) = .ok (n, m) := by
  unfold fDec
  have hl := lEnc_length m n
  rw [if_pos (by rw [List.length_append]; omega), List.take_append_of_le_length (by omega), List.take_of_length_le (by omega), lDec_lEnc, Nat.mod_eq_of_lt hn]
theorem fDec_back_rev (m n : Nat) (r : List Nat) (hn : n < 256 ^ m) (hm : m = 2 ∨ m = 4 ∨ m = 8) : rmap (fun n => turn n m) (fDec m ((lEnc m n).reverse ++ r)) = .ok (n, m) := by
  have hl : (lEnc m n).reverse.length = m := by rw [List.length_reverse, lEnc_length]
  have hb : ∀ x ∈ (lEnc m n).reverse, x < 256 := fun x hx => lEnc_lt m n x (List.mem_reverse.1 hx)
  unfold fDec
  rw [if_pos (by rw [List.length_append]; omega), List.take_append_of_le_length (by omega), List.take_of_length_le (by omega), rmap]
  have ht := turn_rev _ hb (by rw [hl]; exact hm)
  rw [hl, List.reverse_reverse] at ht
  have hlt := turn_lt (lDec (lEnc m n).reverse) m (lDec_lt8 _ hb (by omega)) (by omega)
  have := congrArg lDec ht
  rw [lDec_lEnc, lDec_lEnc, Nat.mod_eq_of_lt hn, Nat.mod_eq_of_lt hlt] at this
  rw [this]
theorem vDec_back (room : Nat) (hroom : room ≤ 8) : ∀ (f n : Nat) (first : Bool) (r : List Nat), n < 128 ^ f * 2 ^ room → (n ≠ 0 ∨ (first = true ∧ f ≠ 0)) → vDec room f first (vEnc f n ++ r) = .ok (n, (vEnc f n).length)
  | 0, n, first, r, hn, h0 => by
    have h256 : 2 ^ room ≤ 2 ^ 8 := Nat.pow_le_pow_right (by decide) hroom
    rw [show (2 : Nat) ^ 8 = 256 by decide] at h256
    rw [Nat.pow_zero, Nat.one_mul] at hn
    have hn0 : n ≠ 0 := by rcases h0 with h | h; exact h; exact absurd rfl h.2
    rw [vEnc, Nat.mod_eq_of_lt (by omega), List.singleton_append, vDec, if_neg (by omega)]
    rfl
  | f + 1, n, first, r, hn, h0 => by
    rw [vEnc]
    by_cases h : n < 128
    · rw [if_pos h, List.singleton_append, vDec, if_neg (by rintro ⟨a, b⟩; rcases h0 with h0 | h0; exact h0 a; rw [b] at h0; cases h0.1), if_pos h]
      rfl
    · rw [if_neg h, List.cons_append, vDec, if_neg (by omega), if_neg (by omega), vDec_back room hroom f (n / 128) false r ?_ (Or.inl (by omega))]
      · simp only [List.length_cons, Except.ok.injEq, Prod.mk.injEq, and_true]; omega
      · rw [Nat.pow_succ] at hn
        refine Nat.div_lt_of_lt_mul ?_
        rw [← Nat.mul_assoc, Nat.mul_comm 128]
        exact hn
theorem fits_lt {k n : Nat} (h : fits k n = true) (hm : most k ≤ 8) : n < 256 ^ most k := by
  unfold fits at h
  rw [beq_iff_eq, Nat.min_eq_left (by omega), Nat.pow_mul] at h
  rcases Nat.lt_or_ge n (256 ^ most k) with h1 | h1
  · exact h1
  · have := Nat.div_pos h1 (Nat.pow_pos (n := most k) (show 0 < 256 by decide))
    have h' : n / 256 ^ most k = 0 := h
    omega
theorem fits_of {k n : Nat} (h : n < 256 ^ most k) (hm : most k ≤ 8) : fits k n = true := by
  unfold fits
  rw [beq_iff_eq, Nat.min_eq_left (by omega), Nat.pow_mul]
  exact Nat.div_eq_of_lt h
theorem fits_big {k n : Nat} (hn : n < 18446744073709551616) (hm : 8 ≤ most k) : fits k n = true := by
  unfold fits
  rw [beq_iff_eq, Nat.min_eq_right (by omega), show (2 : Nat) ^ 64 = 18446744073709551616 by decide]
  exact Nat.div_eq_of_lt hn
theorem p64a : 128 ^ 9 * 2 ^ 1 = 18446744073709551616 := by decide
theorem p64b : 128 ^ 8 * 2 ^ 8 = 18446744073709551616 := by decide
theorem dec_enc (k n : Nat) (r : List Nat) (hk : k < 10) (hn : n < 18446744073709551616) (hf : fits k n = true) : dec k (enc k n ++ r) = .ok (n, (enc k n).length) := by
  revert hf
  refine ten (fun k => fits k n = true → dec k (enc k n ++ r) = .ok (n, (enc k n).length)) k hk ?_ ?_ ?_ ?_ ?_ ?_ ?_ ?_ ?_ ?_ <;> intro hf
  · rw [enc_0, dec_0, lEnc_length]; exact fDec_back 1 n r (fits_lt hf (by decide))
  · rw [enc_1, dec_1, lEnc_length]; exact fDec_back 2 n r (fits_lt hf (by decide))
  · rw [enc_2, dec_2, List.length_reverse, lEnc_length]; exact fDec_back_rev 2 n r (fits_lt hf (by decide)) (by decide)
  · rw [enc_3, dec_3, lEnc_length]; exact fDec_back 4 n r (fits_lt hf (by decide))
  · rw [enc_4, dec_4, List.length_reverse, lEnc_length]; exact fDec_back_rev 4 n r (fits_lt hf (by decide)) (by decide)
  · rw [enc_5, dec_5, lEnc_length]; exact fDec_back 8 n r (fits_lt hf (by decide))
  · rw [enc_6, dec_6, List.length_reverse, lEnc_length]; exact fDec_back_rev 8 n r (fits_lt hf (by decide)) (by decide)
  · rw [enc_7, dec_7]; exact vDec_back 1 (by decide) 9 n true r (by rw [p64a]; exact hn) (Or.inr ⟨rfl, by decide⟩)
  · rw [enc_8, dec_8, vDec_back 1 (by decide) 9 (zz n) true r (by rw [p64a]; exact zz_lt n hn) (Or.inr ⟨rfl, by decide⟩), rmap, unzz_zz n hn]
  · rw [enc_9, dec_9, vDec_back 8 (by decide) 8 (zz n) true r (by rw [p64b]; exact zz_lt n hn) (Or.inr ⟨rfl, by decide⟩), rmap, unzz_zz n hn]
theorem getRows_putRows (r : List Nat) : ∀ (ks l bs : List Nat), (∀ k ∈ ks, k < 10) → (∀ n ∈ l, n < 18446744073709551616) → ks.length = l.length → putRows ks l = .ok bs → getRows ks (bs ++ r) = .ok (l, bs.length)
  | [], [], bs, _, _, _, h => by
    rw [putRows_nil] at h
    obtain rfl : [] = bs := Except.ok.inj h
    rfl
  | [], _ :: _, _, _, _, hl, _ => by simp at hl
  | _ :: _, [], _, _, _, hl, _ => by simp at hl
  | k :: ks, n :: ns, bs, hk, hn, hl, h => by
    rw [putRows_cons] at h
    by_cases hf : fits k n = true
    · rw [if_pos hf] at h
      cases hp : putRows ks ns with
      | error x => rw [hp] at h; cases h
      | ok cs =>
        rw [hp] at h
        obtain rfl := Except.ok.inj h
        rw [getRows_cons, List.append_assoc, dec_enc k n _ (hk k (by simp)) (hn n (by simp)) hf]
        dsimp only
        rw [List.drop_left, getRows_putRows r ks ns cs (fun x hx => hk x (by simp [hx])) (fun x hx => hn x (by simp [hx])) (by simpa using hl) hp, preG, List.length_append]
        rfl
    · rw [if_neg hf] at h; cases h
theorem getS_putS (s l bs r : List Nat) (hn : ∀ n ∈ l, n < 18446744073709551616) (h : putS s l = .ok bs) : getS s (bs ++ r) = .ok (l, bs.length) := by
  unfold putS at h
  unfold getS
  cases hs : formsS s with
  | none => rw [hs] at h; cases h
  | some ks =>
    rw [hs] at h
    dsimp only at h ⊢
    by_cases hl : ks.length = l.length
    · rw [if_pos hl] at h
      exact getRows_putRows r ks l bs (forms_lt s ks hs) hn hl h
    · rw [if_neg hl] at h; cases h

/-! ### What was read is written -/
theorem fDec_one (m n u : Nat) (l : List Nat) (hb : ∀ x ∈ l, x < 256) (h : fDec m l = .ok (n, u)) : u = m ∧ u ≤ l.length ∧ lEnc m n = l.take u ∧ n < 256 ^ m := by
  unfold fDec at h
  by_cases hm : m ≤ l.length
  · rw [if_pos hm] at h
    simp only [Except.ok.injEq, Prod.mk.injEq] at h
    obtain ⟨rfl, rfl⟩ := h
    have hl : (l.take m).length = m := by rw [List.length_take]; omega
    have hb' : ∀ x ∈ l.take m, x < 256 := fun x hx => hb x (List.mem_of_mem_take hx)
    have h1 := lEnc_lDec (l.take m) hb'
    have h2 := lDec_lt (l.take m) hb'
    rw [hl] at h1 h2
    exact ⟨rfl, hm, h1, h2⟩
  · rw [if_neg hm] at h; cases h
theorem fDec_one_rev (m n u : Nat) (l : List Nat) (hb : ∀ x ∈ l, x < 256) (hm : m = 2 ∨ m = 4 ∨ m = 8) (h : rmap (fun n => turn n m) (fDec m l) = .ok (n, u)) : u = m ∧ u ≤ l.length ∧ (lEnc m n).reverse = l.take u ∧ n < 256 ^ m := by
  cases hd : fDec m l with
  | error x => rw [hd] at h; cases h
  | ok a =>
    obtain ⟨n', u'⟩ := a
    rw [hd, rmap] at h
    simp only [Except.ok.injEq, Prod.mk.injEq] at h
    obtain ⟨rfl, rfl⟩ := h
    obtain ⟨rfl, hle, he, hlt⟩ := fDec_one m n' u' l hb hd
    have h64 := pow256_le u' (by omega)
    refine ⟨rfl, hle, ?_, turn_lt n' u' (by omega) (by omega)⟩
    rw [(turn_enc n' u' (by omega) hm).1, List.reverse_reverse, he]
theorem vDec_one (room : Nat) (hroom : room ≤ 8) : ∀ (f n u : Nat) (first : Bool) (l : List Nat), (∀ x ∈ l, x < 256) → vDec room f first l = .ok (n, u) →
    u ≤ l.length ∧ vEnc f n = l.take u ∧ n < 128 ^ f * 2 ^ room ∧ (first = false → n ≠ 0)
  | f, n, u, first, [], _, h => by
    cases f <;> cases h
  | 0, n, u, first, c :: l, hb, h => by
    have hc := hb c (by simp)
    rw [vDec] at h
    by_cases h1 : c = 0 ∨ 2 ^ room ≤ c
    · rw [if_pos h1] at h; cases h
    · rw [if_neg h1] at h
      simp only [Except.ok.injEq, Prod.mk.injEq] at h
      obtain ⟨rfl, rfl⟩ := h
      refine ⟨by simp, ?_, by omega, fun _ => by omega⟩
      rw [vEnc, Nat.mod_eq_of_lt hc]; rfl
  | f + 1, n, u, first, c :: l, hb, h => by
    have hc := hb c (by simp)
    have hp : 0 < 128 ^ f * 2 ^ room := Nat.mul_pos (Nat.pow_pos (by decide)) (Nat.pow_pos (by decide))
    rw [vDec] at h
    by_cases h1 : c = 0 ∧ first = false
    · rw [if_pos h1] at h; cases h
    · rw [if_neg h1] at h
      by_cases h2 : c < 128
      · rw [if_pos h2] at h
        simp only [Except.ok.injEq, Prod.mk.injEq] at h
        obtain ⟨rfl, rfl⟩ := h
        refine ⟨by simp, ?_, ?_, fun hf hz => h1 ⟨hz, hf⟩⟩
        · rw [vEnc, if_pos h2]; rfl
        · rw [Nat.pow_succ, Nat.mul_right_comm]; omega
      · rw [if_neg h2] at h
        cases hd : vDec room f false l with
        | error x => rw [hd] at h; cases h
        | ok a =>
          obtain ⟨n', u'⟩ := a
          rw [hd] at h
          simp only [Except.ok.injEq, Prod.mk.injEq] at h
          obtain ⟨rfl, rfl⟩ := h
          obtain ⟨i1, i2, i3, i4⟩ := vDec_one room hroom f n' u' false l (fun x hx => hb x (by simp [hx])) hd
          have hn0 := i4 rfl
          refine ⟨by simpa using i1, ?_, ?_, fun _ => by omega⟩
          · rw [vEnc, if_neg (by omega), show (c % 128 + 128 * n') / 128 = n' by omega, show (c % 128 + 128 * n') % 128 + 128 = c by omega, i2, List.take_succ_cons]
          · rw [Nat.pow_succ, Nat.mul_right_comm]; omega
theorem enc_dec (k n u : Nat) (l : List Nat) (hk : k < 10) (hb : ∀ x ∈ l, x < 256) (h : dec k l = .ok (n, u)) : u ≤ l.length ∧ enc k n = l.take u ∧ fits k n = true ∧ n < 18446744073709551616 := by
  revert h
  refine ten (fun k => dec k l = .ok (n, u) → u ≤ l.length ∧ enc k n = l.take u ∧ fits k n = true ∧ n < 18446744073709551616) k hk ?_ ?_ ?_ ?_ ?_ ?_ ?_ ?_ ?_ ?_ <;> intro h
  · rw [dec_0] at h; obtain ⟨rfl, a, b, c⟩ := fDec_one _ _ _ _ hb h; rw [enc_0]; exact ⟨a, b, fits_of c (by decide), Nat.lt_of_lt_of_le c (pow256_le 1 (by decide))⟩
  · rw [dec_1] at h; obtain ⟨rfl, a, b, c⟩ := fDec_one _ _ _ _ hb h; rw [enc_1]; exact ⟨a, b, fits_of c (by decide), Nat.lt_of_lt_of_le c (pow256_le 2 (by decide))⟩
  · rw [dec_2] at h; obtain ⟨rfl, a, b, c⟩ := fDec_one_rev _ _ _ _ hb (by decide) h; rw [enc_2]; exact ⟨a, b, fits_of c (by decide), Nat.lt_of_lt_of_le c (pow256_le 2 (by decide))⟩
  · rw [dec_3] at h; obtain ⟨rfl, a, b, c⟩ := fDec_one _ _ _ _ hb h; rw [enc_3]; exact ⟨a, b, fits_of c (by decide), Nat.lt_of_lt_of_le c (pow256_le 4 (by decide))⟩
  · rw [dec_4] at h; obtain ⟨rfl, a, b, c⟩ := fDec_one_rev _ _ _ _ hb (by decide) h; rw [enc_4]; exact ⟨a, b, fits_of c (by decide), Nat.lt_of_lt_of_le c (pow256_le 4 (by decide))⟩
  · rw [dec_5] at h; obtain ⟨rfl, a, b, c⟩ := fDec_one _ _ _ _ hb h; rw [enc_5]; exact ⟨a, b, fits_of c (by decide), Nat.lt_of_lt_of_le c (pow256_le 8 (by decide))⟩
  · rw [dec_6] at h; obtain ⟨rfl, a, b, c⟩ := fDec_one_rev _ _ _ _ hb (by decide) h; rw [enc_6]; exact ⟨a, b, fits_of c (by decide), Nat.lt_of_lt_of_le c (pow256_le 8 (by decide))⟩
  · rw [dec_7] at h; obtain ⟨a, b, c, -⟩ := vDec_one 1 (by decide) _ _ _ _ _ hb h; rw [p64a] at c; rw [enc_7]; exact ⟨a, b, fits_big c (by decide), c⟩
  · rw [dec_8] at h
    cases hd : vDec 1 9 true l with
    | error x => rw [hd] at h; cases h
    | ok a =>
      obtain ⟨n', u'⟩ := a
      rw [hd, rmap] at h
      simp only [Except.ok.injEq, Prod.mk.injEq] at h
      obtain ⟨rfl, rfl⟩ := h
      obtain ⟨a, b, c, -⟩ := vDec_one 1 (by decide) _ _ _ _ _ hb hd
      rw [p64a] at c
      rw [enc_8, zz_unzz n' c]
      exact ⟨a, b, fits_big (unzz_lt n') (by decide), unzz_lt n'⟩
  · rw [dec_9] at h
    cases hd : vDec 8 8 true l with
    | error x => rw [hd] at h; cases h
    | ok a =>
      obtain ⟨n', u'⟩ := a
      rw [hd, rmap] at h
      simp only [Except.ok.injEq, Prod.mk.injEq] at h
      obtain ⟨rfl, rfl⟩ := h
      obtain ⟨a, b, c, -⟩ := vDec_one 8 (by decide) _ _ _ _ _ hb hd
      rw [p64b] at c
      rw [enc_9, zz_unzz n' c]
      exact ⟨a, b, fits_big (unzz_lt n') (by decide), unzz_lt n'⟩
theorem putRows_getRows : ∀ (ks l ns : List Nat) (u : Nat), (∀ k ∈ ks, k < 10) → (∀ x ∈ l, x < 256) → getRows ks l = .ok (ns, u) → ks.length = ns.length ∧ u ≤ l.length ∧ putRows ks ns = .ok (l.take u)
  | [], l, ns, u, _, _, h => by
    rw [getRows] at h
    simp only [Except.ok.injEq, Prod.mk.injEq] at h
    obtain ⟨rfl, rfl⟩ := h
    exact ⟨rfl, by omega, by rw [putRows_nil]; rfl⟩
  | k :: ks, l, ns, u, hk, hb, h => by
    rw [getRows_cons] at h
    cases hd : dec k l with
    | error x => rw [hd] at h; cases h
    | ok a =>
      obtain ⟨n', u'⟩ := a
      rw [hd] at h
      dsimp only at h
      obtain ⟨d1, d2, d3, d4⟩ := enc_dec k n' u' l (hk k (by simp)) hb hd
      cases hg : getRows ks (l.drop u') with
      | error x => rw [hg] at h; cases h
      | ok a =>
        obtain ⟨ns', v⟩ := a
        rw [hg, preG] at h
        simp only [Except.ok.injEq, Prod.mk.injEq] at h
        obtain ⟨rfl, rfl⟩ := h
        obtain ⟨i1, i2, i3⟩ := putRows_getRows ks (l.drop u') ns' v (fun x hx => hk x (by simp [hx])) (fun x hx => hb x (List.mem_of_mem_drop hx)) hg
        rw [List.length_drop] at i2
        refine ⟨by simp [i1], by omega, ?_⟩
        rw [List.singleton_append, putRows_cons, if_pos d3, i3, pre, d2, List.take_add]
theorem putS_getS (s l ns : List Nat) (u : Nat) (hb : ∀ x ∈ l, x < 256) (h : getS s l = .ok (ns, u)) : u ≤ l.length ∧ putS s ns = .ok (l.take u) := by
  unfold getS at h
  unfold putS
  cases hs : formsS s with
  | none => rw [hs] at h; cases h
  | some ks =>
    rw [hs] at h
    dsimp only at h ⊢
    obtain ⟨a, b, c⟩ := putRows_getRows ks l ns u (forms_lt s ks hs) hb h
    rw [if_pos a]
    exact ⟨b, c⟩

/-! ### What is cut off ended -/
theorem fDec_cut (m : Nat) (l : List Nat) (h : l.length < m) : fDec m l = .error 20 := by unfold fDec; rw [if_neg (by omega)]
theorem vDec_cut (room : Nat) : ∀ (f n c : Nat) (first : Bool), c < (vEnc f n).length → vDec room f first ((vEnc f n).take c) = .error 20
  | 0, n, c, first, h => by
    have : c = 0 := by rw [vEnc] at h; simp at h; omega
    subst this; rfl
  | f + 1, n, 0, first, _ => by rw [List.take_zero]; rfl
  | f + 1, n, c + 1, first, h => by
    rw [vEnc] at h ⊢
    by_cases h1 : n < 128
    · rw [if_pos h1] at h; simp at h
    · rw [if_neg h1] at h ⊢
      rw [List.length_cons] at h
      rw [List.take_succ_cons, vDec, if_neg (by omega), if_neg (by omega), vDec_cut room f (n / 128) c false (by omega)]
theorem rmap_cut {f : Nat → Nat} {r : Except Nat (Nat × Nat)} (h : r = .error 20) : rmap f r = .error 20 := by rw [h]; rfl
theorem dec_cut (k n c : Nat) (hk : k < 10) (h : c < (enc k n).length) : dec k ((enc k n).take c) = .error 20 := by
  revert h
  refine ten (fun k => c < (enc k n).length → dec k ((enc k n).take c) = .error 20) k hk ?_ ?_ ?_ ?_ ?_ ?_ ?_ ?_ ?_ ?_ <;> intro h
  · rw [enc_0, lEnc_length] at h; rw [enc_0, dec_0]; exact fDec_cut _ _ (by rw [List.length_take]; omega)
  · rw [enc_1, lEnc_length] at h; rw [enc_1, dec_1]; exact fDec_cut _ _ (by rw [List.length_take]; omega)
  · rw [enc_2, List.length_reverse, lEnc_length] at h; rw [enc_2, dec_2]; exact rmap_cut (fDec_cut _ _ (by rw [List.length_take]; omega))
  · rw [enc_3, lEnc_length] at h; rw [enc_3, dec_3]; exact fDec_cut _ _ (by rw [List.length_take]; omega)
  · rw [enc_4, List.length_reverse, lEnc_length] at h; rw [enc_4, dec_4]; exact rmap_cut (fDec_cut _ _ (by rw [List.length_take]; omega))
  · rw [enc_5, lEnc_length] at h; rw [enc_5, dec_5]; exact fDec_cut _ _ (by rw [List.length_take]; omega)
  · rw [enc_6, List.length_reverse, lEnc_length] at h; rw [enc_6, dec_6]; exact rmap_cut (fDec_cut _ _ (by rw [List.length_take]; omega))
  · rw [enc_7] at h; rw [enc_7, dec_7]; exact vDec_cut 1 9 n c true h
  · rw [enc_8] at h; rw [enc_8, dec_8]; exact rmap_cut (vDec_cut 1 9 _ c true h)
  · rw [enc_9] at h; rw [enc_9, dec_9]; exact rmap_cut (vDec_cut 8 8 _ c true h)
theorem getRows_cut : ∀ (ks l bs : List Nat) (c : Nat), (∀ k ∈ ks, k < 10) → (∀ n ∈ l, n < 18446744073709551616) → putRows ks l = .ok bs → c < bs.length → getRows ks (bs.take c) = .error 20
  | [], l, bs, c, _, _, h, hc => by
    rw [putRows] at h
    · obtain rfl : [] = bs := Except.ok.inj h
      simp at hc
    · intro _ _ _ _ e; cases e
  | _ :: _, [], bs, c, _, _, h, hc => by
    rw [putRows] at h
    · obtain rfl : [] = bs := Except.ok.inj h
      simp at hc
    · intro _ _ _ _ _ e; cases e
  | k :: ks, n :: ns, bs, c, hk, hn, h, hc => by
    rw [putRows_cons] at h
    by_cases hf : fits k n = true
    · rw [if_pos hf] at h
      cases hp : putRows ks ns with
      | error x => rw [hp] at h; cases h
      | ok cs =>
        rw [hp] at h
        obtain rfl := Except.ok.inj h
        have hk0 := hk k (by simp)
        rw [List.length_append] at hc
        by_cases hl : c < (enc k n).length
        · rw [List.take_append_of_le_length (by omega), getRows_cons, dec_cut k n c hk0 hl]
        · rw [List.take_append, List.take_of_length_le (by omega), getRows_cons, dec_enc k n _ hk0 (hn n (by simp)) hf]
          dsimp only
          rw [List.drop_left, getRows_cut ks ns cs (c - (enc k n).length) (fun x hx => hk x (by simp [hx])) (fun x hx => hn x (by simp [hx])) hp (by omega)]
          rfl
    · rw [if_neg hf] at h; cases h
theorem getS_cut (s l bs : List Nat) (c : Nat) (hn : ∀ n ∈ l, n < 18446744073709551616) (h : putS s l = .ok bs) (hc : c < bs.length) : getS s (bs.take c) = .error 20 := by
  unfold putS at h
  unfold getS
  cases hs : formsS s with
  | none => rw [hs] at h; cases h
  | some ks =>
    rw [hs] at h
    dsimp only at h ⊢
    by_cases hl : ks.length = l.length
    · rw [if_pos hl] at h
      exact getRows_cut ks l bs c (forms_lt s ks hs) hn h hc
    · rw [if_neg hl] at h; cases h

theorem vEnc_lt : ∀ (f n : Nat), ∀ x ∈ vEnc f n, x < 256
  | 0, n => by intro x hx; rw [vEnc, List.mem_singleton] at hx; omega
  | f + 1, n => by
    intro x hx
    rw [vEnc] at hx
    split at hx
    · rw [List.mem_singleton] at hx; omega
    · rw [List.mem_cons] at hx
      rcases hx with rfl | hx
      · omega
      · exact vEnc_lt f _ x hx
theorem enc_lt (k n : Nat) (hk : k < 10) : ∀ x ∈ enc k n, x < 256 := by
  refine ten (fun k => ∀ x ∈ enc k n, x < 256) k hk ?_ ?_ ?_ ?_ ?_ ?_ ?_ ?_ ?_ ?_ <;> intro x hx
  · rw [enc_0] at hx; exact lEnc_lt _ _ x hx
  · rw [enc_1] at hx; exact lEnc_lt _ _ x hx
  · rw [enc_2] at hx; exact lEnc_lt _ _ x (List.mem_reverse.1 hx)
  · rw [enc_3] at hx; exact lEnc_lt _ _ x hx
  · rw [enc_4] at hx; exact lEnc_lt _ _ x (List.mem_reverse.1 hx)
  · rw [enc_5] at hx; exact lEnc_lt _ _ x hx
  · rw [enc_6] at hx; exact lEnc_lt _ _ x (List.mem_reverse.1 hx)
  · rw [enc_7] at hx; exact vEnc_lt _ _ x hx
  · rw [enc_8] at hx; exact vEnc_lt _ _ x hx
  · rw [enc_9] at hx; exact vEnc_lt _ _ x hx
theorem putRows_lt : ∀ (ks l bs : List Nat), (∀ k ∈ ks, k < 10) → putRows ks l = .ok bs → ∀ x ∈ bs, x < 256
  | [], l, bs, _, h => by
    rw [putRows] at h
    · obtain rfl : [] = bs := Except.ok.inj h
      simp
    · intro _ _ _ _ e; cases e
  | _ :: _, [], bs, _, h => by
    rw [putRows] at h
    · obtain rfl : [] = bs := Except.ok.inj h
      simp
    · intro _ _ _ _ _ e; cases e
  | k :: ks, n :: ns, bs, hk, h => by
    rw [putRows_cons] at h
    split at h
    · cases hp : putRows ks ns with
      | error y => rw [hp] at h; cases h
      | ok cs =>
        rw [hp] at h
        obtain rfl := Except.ok.inj h
        intro x hx
        rcases List.mem_append.1 hx with hx | hx
        · exact enc_lt k n (hk k (by simp)) x hx
        · exact putRows_lt ks ns cs (fun y hy => hk y (by simp [hy])) hp x hx
    · cases h
theorem putS_lt (s l bs : List Nat) (h : putS s l = .ok bs) : ∀ x ∈ bs, x < 256 := by
  unfold putS at h
  cases hs : formsS s with
  | none => rw [hs] at h; cases h
  | some ks =>
    rw [hs] at h
    dsimp only at h
    split at h
    · exact putRows_lt _ _ _ (forms_lt s ks hs) h
    · cases h
end Go.Proofs.Ytgjiepbaagmmiaa
