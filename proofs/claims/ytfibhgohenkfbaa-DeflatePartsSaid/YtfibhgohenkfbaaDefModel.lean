/- What deflate writes, as bits and bytes. -/
import Derived.Test.YtfibhgohenkfbaaInfModel
import Derived.Test.YtfibhgohenkfbaaMatModel
namespace Go.Proofs.Ytfibhgohenkfbaa

/-- how many of the m numbers f 1, f 2 .. aren't above n -/
def cnt (f : Nat → Nat) (m n : Nat) : Nat := (List.range m).countP fun k => decide (f (k + 1) ≤ n)
theorem cnt_le (f : Nat → Nat) (m n : Nat) : cnt f m n ≤ m := by
  have := List.countP_le_length (p := fun k => decide (f (k + 1) ≤ n)) (l := List.range m)
  simpa [cnt] using this
theorem rising_le {f : Nat → Nat} {m : Nat} (h : ∀ k, k < m → f k < f (k + 1)) (i : Nat) : ∀ j, i + j ≤ m → f i + j ≤ f (i + j)
  | 0, _ => Nat.le_refl _
  | j + 1, hj => by
    have h1 := rising_le h i j (by omega)
    have h2 := h (i + j) (by omega)
    rw [show i + (j + 1) = i + j + 1 by omega]
    omega
theorem cnt_eq {f : Nat → Nat} {m n s : Nat} (h : ∀ k, k < m → f k < f (k + 1)) (hs : s ≤ m) (h1 : 0 < s → f s ≤ n) (h2 : s < m → n < f (s + 1)) : cnt f m n = s := by
  unfold cnt
  rw [show m = s + (m - s) by omega, List.range_add, List.countP_append]
  have e1 : (List.range s).countP (fun k => decide (f (k + 1) ≤ n)) = s := by
    have : (List.range s).countP (fun k => decide (f (k + 1) ≤ n)) = (List.range s).length := by
      rw [List.countP_eq_length]
      intro k hk
      have hk := List.mem_range.1 hk
      have q := rising_le h (k + 1) (s - (k + 1)) (by omega)
      rw [show k + 1 + (s - (k + 1)) = s by omega] at q
      have := h1 (by omega)
      exact decide_eq_true (by omega)
    rw [this, List.length_range]
  have e2 : ((List.range (m - s)).map (s + ·)).countP (fun k => decide (f (k + 1) ≤ n)) = 0 := by
    rw [List.countP_eq_zero]
    intro k hk
    obtain ⟨j, hj, rfl⟩ := List.mem_map.1 hk
    have hj := List.mem_range.1 hj
    have q := rising_le h (s + 1) j (by omega)
    have := h2 (by omega)
    rw [decide_eq_true_iff]
    rw [show s + j + 1 = s + 1 + j by omega]
    omega
  rw [e1, e2]; omega
theorem cnt_is {f : Nat → Nat} {m n : Nat} (h : ∀ k, k < m → f k < f (k + 1)) (h0 : f 0 ≤ n) : f (cnt f m n) ≤ n ∧ (cnt f m n < m → n < f (cnt f m n + 1)) := by
  induction m with
  | zero => exact ⟨by simpa [cnt] using h0, fun q => by simp [cnt] at q⟩
  | succ m ih =>
    obtain ⟨i1, i2⟩ := ih fun k hk => h k (by omega)
    have hc := cnt_le f m n
    have e : cnt f (m + 1) n = cnt f m n + if f (m + 1) ≤ n then 1 else 0 := by
      unfold cnt
      rw [List.range_succ, List.countP_append, List.countP_singleton]
      by_cases q : f (m + 1) ≤ n
      · rw [if_pos q, if_pos (decide_eq_true q)]
      · rw [if_neg q, if_neg (by rw [decide_eq_true_iff]; exact q)]
    by_cases q : f (m + 1) ≤ n
    · have hm : cnt f m n = m := by
        by_cases hlt : cnt f m n < m
        · have a := i2 hlt
          have b := rising_le h (cnt f m n + 1) (m + 1 - (cnt f m n + 1)) (by omega)
          rw [show cnt f m n + 1 + (m + 1 - (cnt f m n + 1)) = m + 1 by omega] at b
          omega
        · omega
      rw [e, if_pos q, hm]
      exact ⟨q, fun z => by omega⟩
    · rw [e, if_neg q, Nat.add_zero]
      refine ⟨i1, fun z => ?_⟩
      by_cases hlt : cnt f m n < m
      · exact i2 hlt
      · rw [show cnt f m n = m by omega]; omega

/-- the symbol of a length -/
def lenS (n : Nat) : Nat := 257 + cnt (fun k => baseN (257 + k)) 28 n
/-- the symbol of a distance -/
def spnS (n : Nat) : Nat := cnt farN 29 n
theorem base_rise : ∀ k, k < 28 → baseN (257 + k) < baseN (257 + (k + 1)) := by
  have key : ∀ k : Fin 28, baseN (257 + k.val) < baseN (257 + (k.val + 1)) := by decide
  exact fun k hk => key ⟨k, hk⟩
theorem far_rise : ∀ k, k < 29 → farN k < farN (k + 1) := by
  have key : ∀ k : Fin 29, farN k.val < farN (k.val + 1) := by decide
  exact fun k hk => key ⟨k, hk⟩
theorem lenS_le (n : Nat) : 257 ≤ lenS n ∧ lenS n ≤ 285 := by have := cnt_le (fun k => baseN (257 + k)) 28 n; unfold lenS; omega
theorem spnS_le (n : Nat) : spnS n ≤ 29 := cnt_le _ _ _
theorem lenS_is {n : Nat} (h : 3 ≤ n) (h2 : n ≤ 258) : baseN (lenS n) ≤ n ∧ n < baseN (lenS n) + 2 ^ baseC (lenS n) := by
  have c := cnt_is (n := n) base_rise (show baseN (257 + 0) ≤ n from h)
  have l := cnt_le (fun k => baseN (257 + k)) 28 n
  obtain ⟨s, hs⟩ : ∃ s, cnt (fun k => baseN (257 + k)) 28 n = s := ⟨_, rfl⟩
  unfold lenS
  rw [hs] at c l ⊢
  refine ⟨c.1, ?_⟩
  have key : ∀ k : Fin 28, baseN (257 + (k.val + 1)) ≤ baseN (257 + k.val) + 2 ^ baseC (257 + k.val) := by decide
  by_cases h28 : s < 28
  · exact Nat.lt_of_lt_of_le (c.2 h28) (key ⟨s, h28⟩)
  · obtain rfl : s = 28 := by omega
    have : baseN (257 + 28) + 2 ^ baseC (257 + 28) = 259 := by decide
    omega
theorem spnS_is {n : Nat} (h : 1 ≤ n) (h2 : n ≤ 32768) : farN (spnS n) ≤ n ∧ n < farN (spnS n) + 2 ^ farC (spnS n) := by
  have c := cnt_is (n := n) far_rise (show farN 0 ≤ n from h)
  have l := cnt_le farN 29 n
  obtain ⟨s, hs⟩ : ∃ s, cnt farN 29 n = s := ⟨_, rfl⟩
  unfold spnS
  rw [hs] at c l ⊢
  refine ⟨c.1, ?_⟩
  have key : ∀ k : Fin 29, farN (k.val + 1) ≤ farN k.val + 2 ^ farC k.val := by decide
  by_cases h29 : s < 29
  · exact Nat.lt_of_lt_of_le (c.2 h29) (key ⟨s, h29⟩)
  · obtain rfl : s = 29 := by omega
    have : farN 29 + 2 ^ farC 29 = 32769 := by decide
    omega

/-- the five bits of a distance's symbol -/
def fives : List Nat := List.replicate 32 5
/-- a number's symbol by a code, and what it is more -/
def numB (l : List Nat) (s n least c : Nat) : List Nat := code (cod l s) (len l s) ++ grp (n - least) c
/-- a token's bits -/
def tkB (t : M.Tk) : List Nat :=
  if t.2.2 = 0 then code (cod fixLs' t.1) (len fixLs' t.1)
  else numB fixLs' (lenS t.2.1) t.2.1 (baseN (lenS t.2.1)) (baseC (lenS t.2.1)) ++ numB fives (spnS t.2.2) t.2.2 (farN (spnS t.2.2)) (farC (spnS t.2.2))
/-- tokens' bits -/
def tksB (l : List M.Tk) : List Nat := l.flatMap tkB
theorem tksB_append (a b : List M.Tk) : tksB (a ++ b) = tksB a ++ tksB b := by simp [tksB]
theorem tksB_one (t : M.Tk) : tksB [t] = tkB t := by simp [tksB]
/-- the bits of the fixed block -/
def fxB (b : List Nat) : List Nat := [1, 1, 0] ++ tksB (M.toks b 0) ++ code (cod fixLs' 256) (len fixLs' 256)
def fxd (b : List Nat) : List Nat := byt (fxB b)

/-- a stored block -/
def blk (f : Nat) (l : List Nat) : List Nat := [f, l.length % 256, l.length / 256, 255 - l.length % 256, 255 - l.length / 256] ++ l
def sto (b : List Nat) : List Nat := if _h : b.length ≤ 65535 then blk 1 b else blk 0 (b.take 65535) ++ sto (b.drop 65535)
termination_by b.length
decreasing_by rw [List.length_drop]; omega
theorem sto_last {b : List Nat} (h : b.length ≤ 65535) : sto b = blk 1 b := by rw [sto, dif_pos h]
theorem sto_more {b : List Nat} (h : ¬ b.length ≤ 65535) : sto b = blk 0 (b.take 65535) ++ sto (b.drop 65535) := by rw [sto, dif_neg h]
theorem blk_length (f : Nat) (l : List Nat) : (blk f l).length = l.length + 5 := by simp [blk]
/-- the shorter one -/
def bst (b : List Nat) : List Nat := if (sto b).length < (fxd b).length then sto b else fxd b
end Go.Proofs.Ytfibhgohenkfbaa
