/- Cells of values by digits: the bucket of a value, its cell's size, where the cell begins, its index; the value at an index. -/
import Derived.Test.YtggpnjiankejmaaWdMath
namespace Go.Proofs.Ytggpnjiankejmaa

theorem two_pos (k : Nat) : 0 < 2 ^ k := Nat.pow_pos (by decide)
theorem two_le {a b : Nat} (h : a ≤ b) : 2 ^ a ≤ 2 ^ b := Nat.pow_le_pow_right (by decide) h
theorem two_lt {a b : Nat} (h : a < b) : 2 * 2 ^ a ≤ 2 ^ b := by
  have e : 2 ^ (a + 1) ≤ 2 ^ b := two_le h
  rw [Nat.pow_succ] at e; omega
theorem two_lt' {a b : Nat} (h : 2 ^ a < 2 ^ b) : a < b := by
  by_cases hc : a < b
  · exact hc
  · have := two_le (show b ≤ a by omega); omega

theorem bits_iff (v k : Nat) (h : v < 18446744073709551616) : Lib.bitLen v ≤ k ↔ v < 2 ^ k := by
  by_cases h0 : v = 0
  · subst h0
    have e : Lib.bitLen 0 = 0 := by decide
    have p := two_pos k
    omega
  · obtain ⟨a, b⟩ := bitLen_bd v (by omega) h
    constructor
    · intro hk
      exact Nat.lt_of_lt_of_le a (two_le hk)
    · intro hv
      by_cases hc : Lib.bitLen v ≤ k
      · exact hc
      · have := two_lt (show k < Lib.bitLen v by omega); omega

/-- the bucket of v, where the values below 2^s are in the first one -/
def bkt (s v : Nat) : Nat := Lib.bitLen v - s
theorem bkt_iff (s v b : Nat) (h : v < 18446744073709551616) : bkt s v ≤ b ↔ v < 2 ^ (s + b) := by
  rw [← bits_iff v (s + b) h, bkt]; omega
theorem bkt_lt (s v : Nat) (h : v < 18446744073709551616) : v < 2 ^ (s + bkt s v) := (bkt_iff s v _ h).1 (Nat.le_refl _)
theorem bkt_ge (s v : Nat) (h : v < 18446744073709551616) (h0 : 0 < bkt s v) : 2 ^ (s + (bkt s v - 1)) ≤ v := by
  have e := bkt_iff s v (bkt s v - 1) h
  omega
theorem bkt_is (s v b : Nat) (h : v < 18446744073709551616) (h1 : v < 2 ^ (s + b)) (h2 : 0 < b → 2 ^ (s + (b - 1)) ≤ v) : bkt s v = b := by
  have e := (bkt_iff s v b h).2 h1
  by_cases hb : b = 0
  · omega
  · have e2 := bkt_iff s v (b - 1) h
    have := h2 (by omega)
    omega
theorem bkt_mono (s v w : Nat) (hw : w < 18446744073709551616) (h : v ≤ w) : bkt s v ≤ bkt s w := by
  rw [bkt_iff s v _ (by omega)]
  exact Nat.lt_of_le_of_lt h (bkt_lt s w hw)
theorem bkt_most (s v : Nat) (hs : s ≤ 63) (h : v < 9223372036854775808) : bkt s v ≤ 63 - s := by
  rw [bkt_iff s v _ (by omega), show s + (63 - s) = 63 by omega]; exact h

/-- which power of two the size of v's cell is -/
def wid (u m v : Nat) : Nat := u + bkt (u + m) v
theorem wid_most (u m v : Nat) (hm : 1 ≤ m) (hs : u + m ≤ 62) (h : v < 9223372036854775808) : wid u m v ≤ 62 := by
  have := bkt_most (u + m) v (by omega) h
  rw [wid]; omega
/-- how many times the size goes into where v's cell begins -/
def quo (u m v : Nat) : Nat := v / 2 ^ wid u m v
theorem quo_lt (u m v : Nat) (h : v < 18446744073709551616) : quo u m v < 2 ^ m := by
  rw [quo, Nat.div_lt_iff_lt_mul (two_pos _), ← Nat.pow_add, wid]
  have e := bkt_lt (u + m) v h
  rwa [show m + (u + bkt (u + m) v) = u + m + bkt (u + m) v by omega]
theorem quo_ge (u m v : Nat) (hm : 1 ≤ m) (h : v < 18446744073709551616) (h0 : 0 < bkt (u + m) v) : 2 ^ (m - 1) ≤ quo u m v := by
  rw [quo, Nat.le_div_iff_mul_le (two_pos _), ← Nat.pow_add, wid]
  have e := bkt_ge (u + m) v h h0
  rwa [show m - 1 + (u + bkt (u + m) v) = u + m + (bkt (u + m) v - 1) by omega]
theorem half_two (m : Nat) (hm : 1 ≤ m) : 2 ^ m = 2 * 2 ^ (m - 1) := by
  rw [show m = m - 1 + 1 by omega, Nat.pow_succ, Nat.add_sub_cancel]; omega

/-- where v's cell begins -/
def beg (u m v : Nat) : Nat := quo u m v * 2 ^ wid u m v
theorem beg_le (u m v : Nat) : beg u m v ≤ v := Nat.div_mul_le_self _ _
theorem beg_gt (u m v : Nat) : v < beg u m v + 2 ^ wid u m v := by
  have e := Nat.div_add_mod v (2 ^ wid u m v)
  have l := Nat.mod_lt v (two_pos (wid u m v))
  rw [Nat.mul_comm] at e
  rw [beg, quo]; omega
/-- a cell ends ahead of 2^63 -/
theorem end_le (u m v : Nat) (hs : u + m ≤ 62) (h : v < 9223372036854775808) : beg u m v + 2 ^ wid u m v ≤ 9223372036854775808 := by
  have q := quo_lt u m v (by omega)
  have w := bkt_most (u + m) v (by omega) h
  have e : (quo u m v + 1) * 2 ^ wid u m v ≤ 2 ^ m * 2 ^ wid u m v := Nat.mul_le_mul_right _ q
  rw [← Nat.pow_add, Nat.add_mul, Nat.one_mul] at e
  have l : 2 ^ (m + wid u m v) ≤ 2 ^ 63 := two_le (by rw [wid]; omega)
  rw [beg]; omega

/-- v's index -/
def idx (u m v : Nat) : Nat := bkt (u + m) v * 2 ^ (m - 1) + quo u m v
theorem idx_mono (u m v w : Nat) (hm : 1 ≤ m) (hw : w < 18446744073709551616) (h : v ≤ w) : idx u m v ≤ idx u m w := by
  have hb := bkt_mono (u + m) v w hw h
  have hv : v < 18446744073709551616 := by omega
  by_cases he : bkt (u + m) v = bkt (u + m) w
  · have e : quo u m v ≤ quo u m w := by
      rw [quo, quo, wid, wid, he]; exact Nat.div_le_div_right h
    rw [idx, idx, he]; omega
  · have q := quo_lt u m v hv
    have q2 := quo_ge u m w hm hw (by omega)
    have e : (bkt (u + m) v + 1) * 2 ^ (m - 1) ≤ bkt (u + m) w * 2 ^ (m - 1) := Nat.mul_le_mul_right _ (by omega)
    rw [Nat.add_mul, Nat.one_mul] at e
    rw [half_two m hm] at q
    rw [idx, idx]; omega

/-- the bucket that an index tells -/
def ibk (m i : Nat) : Nat := i / 2 ^ (m - 1) - 1
theorem ibk_idx (u m v : Nat) (hm : 1 ≤ m) (h : v < 18446744073709551616) : ibk m (idx u m v) = bkt (u + m) v := by
  have q := quo_lt u m v h
  have q2 := quo_ge u m v hm h
  rw [half_two m hm] at q
  have p := two_pos (m - 1)
  rw [ibk, idx, Nat.add_comm, Nat.add_mul_div_right _ _ p]
  by_cases hb : bkt (u + m) v = 0
  · have : quo u m v / 2 ^ (m - 1) < 2 := by rw [Nat.div_lt_iff_lt_mul p]; omega
    omega
  · have e : quo u m v / 2 ^ (m - 1) = 1 := by
      have a : quo u m v / 2 ^ (m - 1) < 2 := by rw [Nat.div_lt_iff_lt_mul p]; omega
      have b : 1 ≤ quo u m v / 2 ^ (m - 1) := by rw [Nat.le_div_iff_mul_le p]; have := q2 (by omega); omega
      omega
    omega
/-- how many times a cell's size goes into where the cell with an index begins -/
def iqu (m i : Nat) : Nat := i - ibk m i * 2 ^ (m - 1)
theorem iqu_at (m i : Nat) : ibk m i * 2 ^ (m - 1) ≤ i := by
  have e := Nat.div_mul_le_self i (2 ^ (m - 1))
  have l : ibk m i * 2 ^ (m - 1) ≤ i / 2 ^ (m - 1) * 2 ^ (m - 1) := Nat.mul_le_mul_right _ (Nat.sub_le _ _)
  omega
theorem iqu_lt (m i : Nat) (hm : 1 ≤ m) : iqu m i < 2 ^ m := by
  have p := two_pos (m - 1)
  have e := Nat.div_add_mod i (2 ^ (m - 1))
  have l := Nat.mod_lt i p
  rw [half_two m hm, iqu, ibk]
  rw [Nat.mul_comm] at e
  by_cases h : i / 2 ^ (m - 1) = 0
  · rw [h] at e ⊢; simp only [Nat.zero_sub, Nat.zero_mul] at e ⊢; omega
  · have e2 : i / 2 ^ (m - 1) * 2 ^ (m - 1) = (i / 2 ^ (m - 1) - 1) * 2 ^ (m - 1) + 2 ^ (m - 1) := by
      rw [← Nat.succ_mul, Nat.succ_eq_add_one, Nat.sub_add_cancel (Nat.pos_of_ne_zero h)]
    omega
theorem iqu_ge (m i : Nat) (h : 0 < ibk m i) : 2 ^ (m - 1) ≤ iqu m i := by
  have e := Nat.div_mul_le_self i (2 ^ (m - 1))
  rw [ibk] at h
  have e2 : i / 2 ^ (m - 1) * 2 ^ (m - 1) = (i / 2 ^ (m - 1) - 1) * 2 ^ (m - 1) + 2 ^ (m - 1) := by
    rw [← Nat.succ_mul, Nat.succ_eq_add_one, Nat.sub_add_cancel (Nat.lt_of_sub_pos h |> Nat.le_of_lt)]
  rw [iqu, ibk]; omega
/-- where the cell with the index i begins -/
def vof (u m i : Nat) : Nat := iqu m i * 2 ^ (u + ibk m i)
theorem vof_idx (u m v : Nat) (hm : 1 ≤ m) (h : v < 18446744073709551616) : vof u m (idx u m v) = beg u m v := by
  have e := ibk_idx u m v hm h
  rw [vof, iqu, e, beg, wid, idx, Nat.add_sub_cancel_left]
theorem vof_lt (u m i : Nat) (hm : 1 ≤ m) (hs : u + m ≤ 63) (h : ibk m i ≤ 63 - (u + m)) : vof u m i + 2 ^ (u + ibk m i) ≤ 9223372036854775808 := by
  have q := iqu_lt m i hm
  have e : (iqu m i + 1) * 2 ^ (u + ibk m i) ≤ 2 ^ m * 2 ^ (u + ibk m i) := Nat.mul_le_mul_right _ q
  rw [← Nat.pow_add, Nat.add_mul, Nat.one_mul] at e
  have l : 2 ^ (m + (u + ibk m i)) ≤ 2 ^ 63 := two_le (by omega)
  rw [vof]; omega
theorem vof_ge (u m i : Nat) (hm : 1 ≤ m) (h : 63 - (u + m) < ibk m i) : 9223372036854775808 ≤ vof u m i := by
  have q := iqu_ge m i (by omega)
  have e : 2 ^ (m - 1) * 2 ^ (u + ibk m i) ≤ iqu m i * 2 ^ (u + ibk m i) := Nat.mul_le_mul_right _ q
  rw [← Nat.pow_add] at e
  have l : 2 ^ 63 ≤ 2 ^ (m - 1 + (u + ibk m i)) := two_le (by omega)
  rw [vof]; omega
theorem bkt_vof (u m i : Nat) (hm : 1 ≤ m) (hs : u + m ≤ 63) (h : ibk m i ≤ 63 - (u + m)) : bkt (u + m) (vof u m i) = ibk m i := by
  have l := vof_lt u m i hm hs h
  have p := two_pos (u + ibk m i)
  refine bkt_is _ _ _ (by omega) ?_ ?_
  · rw [vof, show u + m + ibk m i = m + (u + ibk m i) by omega, Nat.pow_add 2 m]
    exact Nat.mul_lt_mul_of_pos_right (iqu_lt m i hm) (two_pos _)
  · intro hb
    rw [vof, show u + m + (ibk m i - 1) = m - 1 + (u + ibk m i) by omega, Nat.pow_add 2 (m - 1)]
    exact Nat.mul_le_mul_right _ (iqu_ge m i hb)
theorem quo_vof (u m i : Nat) (hm : 1 ≤ m) (hs : u + m ≤ 63) (h : ibk m i ≤ 63 - (u + m)) : quo u m (vof u m i) = iqu m i := by
  rw [quo, wid, bkt_vof u m i hm hs h, vof, Nat.mul_div_cancel _ (two_pos _)]
theorem idx_vof (u m i : Nat) (hm : 1 ≤ m) (hs : u + m ≤ 63) (h : ibk m i ≤ 63 - (u + m)) : idx u m (vof u m i) = i := by
  rw [idx, bkt_vof u m i hm hs h, quo_vof u m i hm hs h, iqu]
  have := iqu_at m i
  omega
theorem beg_vof (u m i : Nat) (hm : 1 ≤ m) (hs : u + m ≤ 63) (h : ibk m i ≤ 63 - (u + m)) : beg u m (vof u m i) = vof u m i := by
  rw [beg, wid, quo_vof u m i hm hs h, bkt_vof u m i hm hs h, vof]
theorem wid_vof (u m i : Nat) (hm : 1 ≤ m) (hs : u + m ≤ 63) (h : ibk m i ≤ 63 - (u + m)) : wid u m (vof u m i) = u + ibk m i := by
  rw [wid, bkt_vof u m i hm hs h]
/-- the next cell begins where one ends -/
theorem vof_next (u m i : Nat) (hm : 1 ≤ m) : vof u m (i + 1) = vof u m i + 2 ^ (u + ibk m i) := by
  have p := two_pos (m - 1)
  have a := iqu_at m i
  have a' := iqu_at m (i + 1)
  have l := iqu_lt m i hm
  have l' := iqu_lt m (i + 1) hm
  have g' := iqu_ge m (i + 1)
  have h2 := half_two m hm
  by_cases hb : ibk m (i + 1) = ibk m i
  · have e : iqu m (i + 1) = iqu m i + 1 := by rw [iqu, iqu, hb]; omega
    rw [vof, vof, hb, e, Nat.add_mul, Nat.one_mul]
  · have mono : i / 2 ^ (m - 1) ≤ (i + 1) / 2 ^ (m - 1) := Nat.div_le_div_right (by omega)
    have hi : ibk m i < ibk m (i + 1) := by
      rw [ibk, ibk] at *; omega
    have hq : iqu m i + ibk m i * 2 ^ (m - 1) = i := by rw [iqu]; omega
    have hq' : iqu m (i + 1) + ibk m (i + 1) * 2 ^ (m - 1) = i + 1 := by rw [iqu]; omega
    have gg := g' (by omega)
    obtain ⟨d, hd⟩ : ∃ d, ibk m (i + 1) = ibk m i + 1 + d := ⟨ibk m (i + 1) - (ibk m i + 1), by omega⟩
    have e : ibk m (i + 1) * 2 ^ (m - 1) = ibk m i * 2 ^ (m - 1) + 2 ^ (m - 1) + d * 2 ^ (m - 1) := by
      rw [hd, Nat.add_mul, Nat.add_mul, Nat.one_mul]
    have hd0 : d = 0 := by
      by_cases h0 : d = 0
      · exact h0
      · have : 1 * 2 ^ (m - 1) ≤ d * 2 ^ (m - 1) := Nat.mul_le_mul_right _ (by omega)
        omega
    subst hd0
    have e1 : iqu m i + 1 = 2 ^ m := by omega
    have e2 : iqu m (i + 1) = 2 ^ (m - 1) := by omega
    rw [vof, vof, e2, hd, Nat.add_zero, show u + (ibk m i + 1) = u + ibk m i + 1 by omega, Nat.pow_succ, show iqu m i = 2 ^ m - 1 by omega]
    generalize 2 ^ (u + ibk m i) = Z
    rw [Nat.sub_mul, Nat.one_mul, h2]
    have : Z ≤ 2 * 2 ^ (m - 1) * Z := by
      have := Nat.mul_le_mul_right Z (show 1 ≤ 2 * 2 ^ (m - 1) by omega)
      omega
    rw [Nat.sub_add_cancel this, Nat.mul_comm Z 2, ← Nat.mul_assoc, Nat.mul_comm (2 ^ (m - 1)) 2]

/-- a cell's greatest value is near -/
theorem near_far (u m v d : Nat) (hm : 1 ≤ m) (hd : d ≤ 2 ^ (m - 1)) (d0 : 0 < d) (h : v < 18446744073709551616) (h0 : 0 < bkt (u + m) v) :
    beg u m v + 2 ^ wid u m v - 1 - v ≤ (v - 1) / d := by
  have g := bkt_ge (u + m) v h h0
  have b := beg_le u m v
  rw [Nat.le_div_iff_mul_le d0]
  have e : 2 ^ (u + m + (bkt (u + m) v - 1)) = 2 ^ wid u m v * 2 ^ (m - 1) := by rw [← Nat.pow_add, wid]; congr 1; omega
  have p := two_pos (wid u m v)
  have a : (beg u m v + 2 ^ wid u m v - 1 - v) * d ≤ (2 ^ wid u m v - 1) * 2 ^ (m - 1) := Nat.mul_le_mul (by omega) hd
  rw [Nat.sub_mul (2 ^ wid u m v), Nat.one_mul, ← e] at a
  have p2 := two_pos (m - 1)
  omega
theorem near_first (u m v : Nat) (h0 : bkt (u + m) v = 0) : beg u m v + 2 ^ wid u m v - 1 - v < 2 ^ u := by
  have b := beg_le u m v
  have p := two_pos u
  rw [wid, h0, Nat.add_zero]; omega

/-- the greatest value of the last cell of some buckets -/
def top (u m n : Nat) : Nat := 2 ^ min (u + m + n - 1) 63 - 1
theorem top_is (u m v : Nat) (hs : u + m ≤ 62) (h : v < 9223372036854775808) : top u m (1 + bkt (u + m) v) = 2 ^ (u + m + bkt (u + m) v) - 1 := by
  have := bkt_most (u + m) v (by omega) h
  rw [top, show min (u + m + (1 + bkt (u + m) v) - 1) 63 = u + m + bkt (u + m) v by omega]
theorem top_ge (u m v : Nat) (hs : u + m ≤ 62) (h : v < 9223372036854775808) : v ≤ top u m (1 + bkt (u + m) v) := by
  rw [top_is u m v hs h]
  have := bkt_lt (u + m) v (by omega)
  omega
theorem top_idx (u m v : Nat) (hm : 1 ≤ m) (hs : u + m ≤ 62) (h : v < 9223372036854775808) : idx u m (top u m (1 + bkt (u + m) v)) = (2 + bkt (u + m) v) * 2 ^ (m - 1) - 1 := by
  have hb := bkt_most (u + m) v (by omega) h
  rw [top_is u m v hs h]
  obtain ⟨b, hB⟩ : ∃ b, bkt (u + m) v = b := ⟨_, rfl⟩
  rw [hB] at hb ⊢
  have p := two_pos (u + m + b)
  have q : 2 ^ (u + m + b) ≤ 2 ^ 63 := two_le (by omega)
  have e : bkt (u + m) (2 ^ (u + m + b) - 1) = b := by
    refine bkt_is _ _ _ (by omega) (by omega) ?_
    intro h0
    have := two_lt (show u + m + (b - 1) < u + m + b by omega)
    have := two_pos (u + m + (b - 1))
    omega
  have e2 : quo u m (2 ^ (u + m + b) - 1) = 2 ^ m - 1 := by
    rw [quo, wid, e, show u + m + b = m + (u + b) by omega, Nat.pow_add 2 m]
    have p3 := two_pos (u + b)
    have p4 := two_pos m
    have l : 2 ^ m * 2 ^ (u + b) - 1 = (2 ^ m - 1) * 2 ^ (u + b) + (2 ^ (u + b) - 1) := by
      rw [Nat.sub_mul, Nat.one_mul]
      have := Nat.mul_le_mul_right (2 ^ (u + b)) p4
      omega
    rw [l, Nat.add_comm, Nat.add_mul_div_right _ _ p3, Nat.div_eq_of_lt (by omega)]; omega
  rw [idx, e, e2, half_two m hm, Nat.add_mul]
  have := two_pos (m - 1)
  omega
theorem top_before (u m v : Nat) (hs : u + m ≤ 62) (h : v < 9223372036854775808) (h0 : 0 < bkt (u + m) v) : top u m (bkt (u + m) v) < v := by
  have hb := bkt_most (u + m) v (by omega) h
  have g := bkt_ge (u + m) v (by omega) h0
  have p := two_pos (u + m + (bkt (u + m) v - 1))
  rw [top, show min (u + m + bkt (u + m) v - 1) 63 = u + m + (bkt (u + m) v - 1) by omega]; omega
theorem top_lt (u m n : Nat) : top u m n < 9223372036854775808 := by
  have l : 2 ^ min (u + m + n - 1) 63 ≤ 2 ^ 63 := two_le (by omega)
  have p := two_pos (min (u + m + n - 1) 63)
  rw [top]; omega
theorem idx_lt (u m v : Nat) (hm : 1 ≤ m) (h : v < 18446744073709551616) : idx u m v < (2 + bkt (u + m) v) * 2 ^ (m - 1) := by
  have q := quo_lt u m v h
  rw [half_two m hm] at q
  rw [idx, Nat.add_mul]; omega
/-- values of one index have one cell -/
theorem idx_beg (u m v w : Nat) (hm : 1 ≤ m) (hv : v < 18446744073709551616) (hw : w < 18446744073709551616) (h : idx u m v = idx u m w) : beg u m v = beg u m w := by
  rw [← vof_idx u m v hm hv, ← vof_idx u m w hm hw, h]

/-- a shape's unit and magnitude -/
def unt (l : Nat) : Nat := Lib.bitLen l - 1
def mag (d : Nat) : Nat := Lib.bitLen (2 * 10 ^ d - 1)
theorem unt_is (l u : Nat) (h : l < 18446744073709551616) (h1 : 2 ^ u ≤ l) (h2 : l < 2 ^ (u + 1)) : unt l = u := by
  have a := bits_iff l (u + 1) h
  have b := bits_iff l u h
  rw [unt]; omega
theorem mag_is (d m : Nat) (h : 2 * 10 ^ d < 18446744073709551616) (h1 : 2 * 10 ^ d ≤ 2 ^ m) (h2 : 0 < m → 2 ^ (m - 1) < 2 * 10 ^ d) : mag d = m := by
  have p : 0 < 10 ^ d := Nat.pow_pos (by decide)
  have a := bits_iff (2 * 10 ^ d - 1) m (by omega)
  have b := bits_iff (2 * 10 ^ d - 1) (m - 1) (by omega)
  rw [mag]
  by_cases hm : m = 0
  · omega
  · have := h2 (by omega); omega
theorem mag_ge (d : Nat) (h : 2 * 10 ^ d < 18446744073709551616) (hd : 1 ≤ mag d) : 10 ^ d ≤ 2 ^ (mag d - 1) := by
  have a := bits_iff (2 * 10 ^ d - 1) (mag d) (by omega)
  have e := half_two (mag d) hd
  have p : 0 < 10 ^ d := Nat.pow_pos (by decide)
  have := a.1 (Nat.le_refl _)
  omega
theorem mag_bd (d : Nat) (h1 : 1 ≤ d) (h5 : d ≤ 5) : 5 ≤ mag d ∧ mag d ≤ 18 := by
  obtain rfl | rfl | rfl | rfl | rfl : d = 1 ∨ d = 2 ∨ d = 3 ∨ d = 4 ∨ d = 5 := by omega
  all_goals decide
theorem unt_bd (l : Nat) (h : l < 18446744073709551616) : unt l ≤ 63 := by
  have a := bits_iff l 64 h
  have := a.2 h
  rw [unt]; omega
theorem unt_le (l : Nat) (h0 : 0 < l) (h : l < 18446744073709551616) : 2 ^ unt l ≤ l ∧ l < 2 * 2 ^ unt l := by
  obtain ⟨a, b⟩ := bitLen_bd l h0 h
  have c := bits_iff l 0 h
  have e : 2 ^ Lib.bitLen l = 2 * 2 ^ unt l := half_two _ (by have := two_pos 0; simp at c; omega)
  omega

end Go.Proofs.Ytggpnjiankejmaa
