/- HmMath, HmMap, HmCell, HmAsk, HmIdx, HmTop, HmNew in one text. -/
import Derived.Test.YthfcfmnaiopogaaGreatWdAll
import Derived.Test.YthfcfmnaiopogaaGreatRkAll
import Derived.BigRegion
import Derived.BigQuiet
import Derived.StillTailTactics
import Derived.Deep.CutBlock
import Derived.Deep.CutRange
import Derived.Deep.DeepCutAuto
import Derived.Deep.RegionHeld3
import Derived.Deep.RegionLaw

/- Cells of values by digits: the bucket of a value, its cell's size, where the cell begins, its index; the value at an index. -/
namespace Go.Proofs.YthfcfmnaiopogaaGreat

theorem two_pos (k : Nat) : 0 < 2 ^ k := Nat.pow_pos (by decide)
theorem two_le {a b : Nat} (h : a ≤ b) : 2 ^ a ≤ 2 ^ b := Nat.pow_le_pow_right (by decide) h
theorem two_lt {a b : Nat} (h : a < b) : 2 * 2 ^ a ≤ 2 ^ b := by
  have e : 2 ^ (a + 1) ≤ 2 ^ b := two_le h
  rw [Nat.pow_succ] at e; omega
theorem two_lt' {a b : Nat} (h : 2 ^ a < 2 ^ b) : a < b := by
  by_cases hc : a < b
  · exact hc
  · have := two_le (show b ≤ a by omega); omega

theorem bits_iff (v k : Nat) (h : v < 18446744073709551616) : Lib.bitLen v ≤ k ↔ v < 2 ^ k := by
  by_cases h0 : v = 0
  · subst h0
    have e : Lib.bitLen 0 = 0 := by decide
    have p := two_pos k
    omega
  · obtain ⟨a, b⟩ := bitLen_bd v (by omega) h
    constructor
    · intro hk
      exact Nat.lt_of_lt_of_le a (two_le hk)
    · intro hv
      by_cases hc : Lib.bitLen v ≤ k
      · exact hc
      · have := two_lt (show k < Lib.bitLen v by omega); omega

/-- the bucket of v, where the values below 2^s are in the first one -/
def bkt (s v : Nat) : Nat := Lib.bitLen v - s
theorem bkt_iff (s v b : Nat) (h : v < 18446744073709551616) : bkt s v ≤ b ↔ v < 2 ^ (s + b) := by
  rw [← bits_iff v (s + b) h, bkt]; omega
theorem bkt_lt (s v : Nat) (h : v < 18446744073709551616) : v < 2 ^ (s + bkt s v) := (bkt_iff s v _ h).1 (Nat.le_refl _)
theorem bkt_ge (s v : Nat) (h : v < 18446744073709551616) (h0 : 0 < bkt s v) : 2 ^ (s + (bkt s v - 1)) ≤ v := by
  have e := bkt_iff s v (bkt s v - 1) h
  omega
theorem bkt_is (s v b : Nat) (h : v < 18446744073709551616) (h1 : v < 2 ^ (s + b)) (h2 : 0 < b → 2 ^ (s + (b - 1)) ≤ v) : bkt s v = b := by
  have e := (bkt_iff s v b h).2 h1
  by_cases hb : b = 0
  · omega
  · have e2 := bkt_iff s v (b - 1) h
    have := h2 (by omega)
    omega
theorem bkt_mono (s v w : Nat) (hw : w < 18446744073709551616) (h : v ≤ w) : bkt s v ≤ bkt s w := by
  rw [bkt_iff s v _ (by omega)]
  exact Nat.lt_of_le_of_lt h (bkt_lt s w hw)
theorem bkt_most (s v : Nat) (hs : s ≤ 63) (h : v < 9223372036854775808) : bkt s v ≤ 63 - s := by
  rw [bkt_iff s v _ (by omega), show s + (63 - s) = 63 by omega]; exact h

/-- which power of two the size of v's cell is -/
def hwid (u m v : Nat) : Nat := u + bkt (u + m) v
theorem hwid_most (u m v : Nat) (hm : 1 ≤ m) (hs : u + m ≤ 62) (h : v < 9223372036854775808) : hwid u m v ≤ 62 := by
  have := bkt_most (u + m) v (by omega) h
  rw [hwid]; omega
/-- how many times the size goes into where v's cell begins -/
def quo (u m v : Nat) : Nat := v / 2 ^ hwid u m v
theorem quo_lt (u m v : Nat) (h : v < 18446744073709551616) : quo u m v < 2 ^ m := by
  rw [quo, Nat.div_lt_iff_lt_mul (two_pos _), ← Nat.pow_add, hwid]
  have e := bkt_lt (u + m) v h
  rwa [show m + (u + bkt (u + m) v) = u + m + bkt (u + m) v by omega]
theorem quo_ge (u m v : Nat) (hm : 1 ≤ m) (h : v < 18446744073709551616) (h0 : 0 < bkt (u + m) v) : 2 ^ (m - 1) ≤ quo u m v := by
  rw [quo, Nat.le_div_iff_mul_le (two_pos _), ← Nat.pow_add, hwid]
  have e := bkt_ge (u + m) v h h0
  rwa [show m - 1 + (u + bkt (u + m) v) = u + m + (bkt (u + m) v - 1) by omega]
theorem half_two (m : Nat) (hm : 1 ≤ m) : 2 ^ m = 2 * 2 ^ (m - 1) := by
  rw [show m = m - 1 + 1 by omega, Nat.pow_succ, Nat.add_sub_cancel]; omega

/-- where v's cell begins -/
def beg (u m v : Nat) : Nat := quo u m v * 2 ^ hwid u m v
theorem beg_le (u m v : Nat) : beg u m v ≤ v := Nat.div_mul_le_self _ _
theorem beg_gt (u m v : Nat) : v < beg u m v + 2 ^ hwid u m v := by
  have e := Nat.div_add_mod v (2 ^ hwid u m v)
  have l := Nat.mod_lt v (two_pos (hwid u m v))
  rw [Nat.mul_comm] at e
  rw [beg, quo]; omega
/-- a cell ends ahead of 2^63 -/
theorem end_le (u m v : Nat) (hs : u + m ≤ 62) (h : v < 9223372036854775808) : beg u m v + 2 ^ hwid u m v ≤ 9223372036854775808 := by
  have q := quo_lt u m v (by omega)
  have w := bkt_most (u + m) v (by omega) h
  have e : (quo u m v + 1) * 2 ^ hwid u m v ≤ 2 ^ m * 2 ^ hwid u m v := Nat.mul_le_mul_right _ q
  rw [← Nat.pow_add, Nat.add_mul, Nat.one_mul] at e
  have l : 2 ^ (m + hwid u m v) ≤ 2 ^ 63 := two_le (by rw [hwid]; omega)
  rw [beg]; omega

/-- v's index -/
def idx (u m v : Nat) : Nat := bkt (u + m) v * 2 ^ (m - 1) + quo u m v
theorem idx_mono (u m v w : Nat) (hm : 1 ≤ m) (hw : w < 18446744073709551616) (h : v ≤ w) : idx u m v ≤ idx u m w := by
  have hb := bkt_mono (u + m) v w hw h
  have hv : v < 18446744073709551616 := by omega
  by_cases he : bkt (u + m) v = bkt (u + m) w
  · have e : quo u m v ≤ quo u m w := by
      rw [quo, quo, hwid, hwid, he]; exact Nat.div_le_div_right h
    rw [idx, idx, he]; omega
  · have q := quo_lt u m v hv
    have q2 := quo_ge u m w hm hw (by omega)
    have e : (bkt (u + m) v + 1) * 2 ^ (m - 1) ≤ bkt (u + m) w * 2 ^ (m - 1) := Nat.mul_le_mul_right _ (by omega)
    rw [Nat.add_mul, Nat.one_mul] at e
    rw [half_two m hm] at q
    rw [idx, idx]; omega

/-- the bucket that an index tells -/
def ibk (m i : Nat) : Nat := i / 2 ^ (m - 1) - 1
theorem ibk_idx (u m v : Nat) (hm : 1 ≤ m) (h : v < 18446744073709551616) : ibk m (idx u m v) = bkt (u + m) v := by
  have q := quo_lt u m v h
  have q2 := quo_ge u m v hm h
  rw [half_two m hm] at q
  have p := two_pos (m - 1)
  rw [ibk, idx, Nat.add_comm, Nat.add_mul_div_right _ _ p]
  by_cases hb : bkt (u + m) v = 0
  · have : quo u m v / 2 ^ (m - 1) < 2 := by rw [Nat.div_lt_iff_lt_mul p]; omega
    omega
  · have e : quo u m v / 2 ^ (m - 1) = 1 := by
      have a : quo u m v / 2 ^ (m - 1) < 2 := by rw [Nat.div_lt_iff_lt_mul p]; omega
      have b : 1 ≤ quo u m v / 2 ^ (m - 1) := by rw [Nat.le_div_iff_mul_le p]; have := q2 (by omega); omega
      omega
    omega
/-- how many times a cell's size goes into where the cell with an index begins -/
def iqu (m i : Nat) : Nat := i - ibk m i * 2 ^ (m - 1)
theorem iqu_at (m i : Nat) : ibk m i * 2 ^ (m - 1) ≤ i := by
  have e := Nat.div_mul_le_self i (2 ^ (m - 1))
  have l : ibk m i * 2 ^ (m - 1) ≤ i / 2 ^ (m - 1) * 2 ^ (m - 1) := Nat.mul_le_mul_right _ (Nat.sub_le _ _)
  omega
theorem iqu_lt (m i : Nat) (hm : 1 ≤ m) : iqu m i < 2 ^ m := by
  have p := two_pos (m - 1)
  have e := Nat.div_add_mod i (2 ^ (m - 1))
  have l := Nat.mod_lt i p
  rw [half_two m hm, iqu, ibk]
  rw [Nat.mul_comm] at e
  by_cases h : i / 2 ^ (m - 1) = 0
  · rw [h] at e ⊢; simp only [Nat.zero_sub, Nat.zero_mul] at e ⊢; omega
  · have e2 : i / 2 ^ (m - 1) * 2 ^ (m - 1) = (i / 2 ^ (m - 1) - 1) * 2 ^ (m - 1) + 2 ^ (m - 1) := by
      rw [← Nat.succ_mul, Nat.succ_eq_add_one, Nat.sub_add_cancel (Nat.pos_of_ne_zero h)]
    omega
theorem iqu_ge (m i : Nat) (h : 0 < ibk m i) : 2 ^ (m - 1) ≤ iqu m i := by
  have e := Nat.div_mul_le_self i (2 ^ (m - 1))
  rw [ibk] at h
  have e2 : i / 2 ^ (m - 1) * 2 ^ (m - 1) = (i / 2 ^ (m - 1) - 1) * 2 ^ (m - 1) + 2 ^ (m - 1) := by
    rw [← Nat.succ_mul, Nat.succ_eq_add_one, Nat.sub_add_cancel (Nat.lt_of_sub_pos h |> Nat.le_of_lt)]
  rw [iqu, ibk]; omega
/-- where the cell with the index i begins -/
def vof (u m i : Nat) : Nat := iqu m i * 2 ^ (u + ibk m i)
theorem vof_idx (u m v : Nat) (hm : 1 ≤ m) (h : v < 18446744073709551616) : vof u m (idx u m v) = beg u m v := by
  have e := ibk_idx u m v hm h
  rw [vof, iqu, e, beg, hwid, idx, Nat.add_sub_cancel_left]
theorem vof_lt (u m i : Nat) (hm : 1 ≤ m) (hs : u + m ≤ 63) (h : ibk m i ≤ 63 - (u + m)) : vof u m i + 2 ^ (u + ibk m i) ≤ 9223372036854775808 := by
  have q := iqu_lt m i hm
  have e : (iqu m i + 1) * 2 ^ (u + ibk m i) ≤ 2 ^ m * 2 ^ (u + ibk m i) := Nat.mul_le_mul_right _ q
  rw [← Nat.pow_add, Nat.add_mul, Nat.one_mul] at e
  have l : 2 ^ (m + (u + ibk m i)) ≤ 2 ^ 63 := two_le (by omega)
  rw [vof]; omega
theorem vof_ge (u m i : Nat) (hm : 1 ≤ m) (h : 63 - (u + m) < ibk m i) : 9223372036854775808 ≤ vof u m i := by
  have q := iqu_ge m i (by omega)
  have e : 2 ^ (m - 1) * 2 ^ (u + ibk m i) ≤ iqu m i * 2 ^ (u + ibk m i) := Nat.mul_le_mul_right _ q
  rw [← Nat.pow_add] at e
  have l : 2 ^ 63 ≤ 2 ^ (m - 1 + (u + ibk m i)) := two_le (by omega)
  rw [vof]; omega
theorem bkt_vof (u m i : Nat) (hm : 1 ≤ m) (hs : u + m ≤ 63) (h : ibk m i ≤ 63 - (u + m)) : bkt (u + m) (vof u m i) = ibk m i := by
  have l := vof_lt u m i hm hs h
  have p := two_pos (u + ibk m i)
  refine bkt_is _ _ _ (by omega) ?_ ?_
  · rw [vof, show u + m + ibk m i = m + (u + ibk m i) by omega, Nat.pow_add 2 m]
    exact Nat.mul_lt_mul_of_pos_right (iqu_lt m i hm) (two_pos _)
  · intro hb
    rw [vof, show u + m + (ibk m i - 1) = m - 1 + (u + ibk m i) by omega, Nat.pow_add 2 (m - 1)]
    exact Nat.mul_le_mul_right _ (iqu_ge m i hb)
theorem quo_vof (u m i : Nat) (hm : 1 ≤ m) (hs : u + m ≤ 63) (h : ibk m i ≤ 63 - (u + m)) : quo u m (vof u m i) = iqu m i := by
  rw [quo, hwid, bkt_vof u m i hm hs h, vof, Nat.mul_div_cancel _ (two_pos _)]
theorem idx_vof (u m i : Nat) (hm : 1 ≤ m) (hs : u + m ≤ 63) (h : ibk m i ≤ 63 - (u + m)) : idx u m (vof u m i) = i := by
  rw [idx, bkt_vof u m i hm hs h, quo_vof u m i hm hs h, iqu]
  have := iqu_at m i
  omega
theorem beg_vof (u m i : Nat) (hm : 1 ≤ m) (hs : u + m ≤ 63) (h : ibk m i ≤ 63 - (u + m)) : beg u m (vof u m i) = vof u m i := by
  rw [beg, hwid, quo_vof u m i hm hs h, bkt_vof u m i hm hs h, vof]
theorem hwid_vof (u m i : Nat) (hm : 1 ≤ m) (hs : u + m ≤ 63) (h : ibk m i ≤ 63 - (u + m)) : hwid u m (vof u m i) = u + ibk m i := by
  rw [hwid, bkt_vof u m i hm hs h]
/-- the next cell begins where one ends -/
theorem vof_next (u m i : Nat) (hm : 1 ≤ m) : vof u m (i + 1) = vof u m i + 2 ^ (u + ibk m i) := by
  have p := two_pos (m - 1)
  have a := iqu_at m i
  have a' := iqu_at m (i + 1)
  have l := iqu_lt m i hm
  have l' := iqu_lt m (i + 1) hm
  have g' := iqu_ge m (i + 1)
  have h2 := half_two m hm
  by_cases hb : ibk m (i + 1) = ibk m i
  · have e : iqu m (i + 1) = iqu m i + 1 := by rw [iqu, iqu, hb]; omega
    rw [vof, vof, hb, e, Nat.add_mul, Nat.one_mul]
  · have mono : i / 2 ^ (m - 1) ≤ (i + 1) / 2 ^ (m - 1) := Nat.div_le_div_right (by omega)
    have hi : ibk m i < ibk m (i + 1) := by
      rw [ibk, ibk] at *; omega
    have hq : iqu m i + ibk m i * 2 ^ (m - 1) = i := by rw [iqu]; omega
    have hq' : iqu m (i + 1) + ibk m (i + 1) * 2 ^ (m - 1) = i + 1 := by rw [iqu]; omega
    have gg := g' (by omega)
    obtain ⟨d, hd⟩ : ∃ d, ibk m (i + 1) = ibk m i + 1 + d := ⟨ibk m (i + 1) - (ibk m i + 1), by omega⟩
    have e : ibk m (i + 1) * 2 ^ (m - 1) = ibk m i * 2 ^ (m - 1) + 2 ^ (m - 1) + d * 2 ^ (m - 1) := by
      rw [hd, Nat.add_mul, Nat.add_mul, Nat.one_mul]
    have hd0 : d = 0 := by
      by_cases h0 : d = 0
      · exact h0
      · have : 1 * 2 ^ (m - 1) ≤ d * 2 ^ (m - 1) := Nat.mul_le_mul_right _ (by omega)
        omega
    subst hd0
    have e1 : iqu m i + 1 = 2 ^ m := by omega
    have e2 : iqu m (i + 1) = 2 ^ (m - 1) := by omega
    rw [vof, vof, e2, hd, Nat.add_zero, show u + (ibk m i + 1) = u + ibk m i + 1 by omega, Nat.pow_succ, show iqu m i = 2 ^ m - 1 by omega]
    generalize 2 ^ (u + ibk m i) = Z
    rw [Nat.sub_mul, Nat.one_mul, h2]
    have : Z ≤ 2 * 2 ^ (m - 1) * Z := by
      have := Nat.mul_le_mul_right Z (show 1 ≤ 2 * 2 ^ (m - 1) by omega)
      omega
    rw [Nat.sub_add_cancel this, Nat.mul_comm Z 2, ← Nat.mul_assoc, Nat.mul_comm (2 ^ (m - 1)) 2]

/-- a cell's greatest value is near -/
theorem near_far (u m v d : Nat) (hm : 1 ≤ m) (hd : d ≤ 2 ^ (m - 1)) (d0 : 0 < d) (h : v < 18446744073709551616) (h0 : 0 < bkt (u + m) v) :
    beg u m v + 2 ^ hwid u m v - 1 - v ≤ (v - 1) / d := by
  have g := bkt_ge (u + m) v h h0
  have b := beg_le u m v
  rw [Nat.le_div_iff_mul_le d0]
  have e : 2 ^ (u + m + (bkt (u + m) v - 1)) = 2 ^ hwid u m v * 2 ^ (m - 1) := by rw [← Nat.pow_add, hwid]; congr 1; omega
  have p := two_pos (hwid u m v)
  have a : (beg u m v + 2 ^ hwid u m v - 1 - v) * d ≤ (2 ^ hwid u m v - 1) * 2 ^ (m - 1) := Nat.mul_le_mul (by omega) hd
  rw [Nat.sub_mul (2 ^ hwid u m v), Nat.one_mul, ← e] at a
  have p2 := two_pos (m - 1)
  omega
theorem near_first (u m v : Nat) (h0 : bkt (u + m) v = 0) : beg u m v + 2 ^ hwid u m v - 1 - v < 2 ^ u := by
  have b := beg_le u m v
  have p := two_pos u
  rw [hwid, h0, Nat.add_zero]; omega

/-- the greatest value of the last cell of some buckets -/
def top (u m n : Nat) : Nat := 2 ^ min (u + m + n - 1) 63 - 1
theorem top_is (u m v : Nat) (hs : u + m ≤ 62) (h : v < 9223372036854775808) : top u m (1 + bkt (u + m) v) = 2 ^ (u + m + bkt (u + m) v) - 1 := by
  have := bkt_most (u + m) v (by omega) h
  rw [top, show min (u + m + (1 + bkt (u + m) v) - 1) 63 = u + m + bkt (u + m) v by omega]
theorem top_ge (u m v : Nat) (hs : u + m ≤ 62) (h : v < 9223372036854775808) : v ≤ top u m (1 + bkt (u + m) v) := by
  rw [top_is u m v hs h]
  have := bkt_lt (u + m) v (by omega)
  omega
theorem top_idx (u m v : Nat) (hm : 1 ≤ m) (hs : u + m ≤ 62) (h : v < 9223372036854775808) : idx u m (top u m (1 + bkt (u + m) v)) = (2 + bkt (u + m) v) * 2 ^ (m - 1) - 1 := by
  have hb := bkt_most (u + m) v (by omega) h
  rw [top_is u m v hs h]
  obtain ⟨b, hB⟩ : ∃ b, bkt (u + m) v = b := ⟨_, rfl⟩
  rw [hB] at hb ⊢
  have p := two_pos (u + m + b)
  have q : 2 ^ (u + m + b) ≤ 2 ^ 63 := two_le (by omega)
  have e : bkt (u + m) (2 ^ (u + m + b) - 1) = b := by
    refine bkt_is _ _ _ (by omega) (by omega) ?_
    intro h0
    have := two_lt (show u + m + (b - 1) < u + m + b by omega)
    have := two_pos (u + m + (b - 1))
    omega
  have e2 : quo u m (2 ^ (u + m + b) - 1) = 2 ^ m - 1 := by
    rw [quo, hwid, e, show u + m + b = m + (u + b) by omega, Nat.pow_add 2 m]
    have p3 := two_pos (u + b)
    have p4 := two_pos m
    have l : 2 ^ m * 2 ^ (u + b) - 1 = (2 ^ m - 1) * 2 ^ (u + b) + (2 ^ (u + b) - 1) := by
      rw [Nat.sub_mul, Nat.one_mul]
      have := Nat.mul_le_mul_right (2 ^ (u + b)) p4
      omega
    rw [l, Nat.add_comm, Nat.add_mul_div_right _ _ p3, Nat.div_eq_of_lt (by omega)]; omega
  rw [idx, e, e2, half_two m hm, Nat.add_mul]
  have := two_pos (m - 1)
  omega
theorem top_before (u m v : Nat) (hs : u + m ≤ 62) (h : v < 9223372036854775808) (h0 : 0 < bkt (u + m) v) : top u m (bkt (u + m) v) < v := by
  have hb := bkt_most (u + m) v (by omega) h
  have g := bkt_ge (u + m) v (by omega) h0
  have p := two_pos (u + m + (bkt (u + m) v - 1))
  rw [top, show min (u + m + bkt (u + m) v - 1) 63 = u + m + (bkt (u + m) v - 1) by omega]; omega
theorem top_lt (u m n : Nat) : top u m n < 9223372036854775808 := by
  have l : 2 ^ min (u + m + n - 1) 63 ≤ 2 ^ 63 := two_le (by omega)
  have p := two_pos (min (u + m + n - 1) 63)
  rw [top]; omega
theorem idx_lt (u m v : Nat) (hm : 1 ≤ m) (h : v < 18446744073709551616) : idx u m v < (2 + bkt (u + m) v) * 2 ^ (m - 1) := by
  have q := quo_lt u m v h
  rw [half_two m hm] at q
  rw [idx, Nat.add_mul]; omega
/-- values of one index have one cell -/
theorem idx_beg (u m v w : Nat) (hm : 1 ≤ m) (hv : v < 18446744073709551616) (hw : w < 18446744073709551616) (h : idx u m v = idx u m w) : beg u m v = beg u m w := by
  rw [← vof_idx u m v hm hv, ← vof_idx u m w hm hw, h]

/-- a shape's unit and magnitude -/
def unt (l : Nat) : Nat := Lib.bitLen l - 1
def mag (d : Nat) : Nat := Lib.bitLen (2 * 10 ^ d - 1)
theorem unt_is (l u : Nat) (h : l < 18446744073709551616) (h1 : 2 ^ u ≤ l) (h2 : l < 2 ^ (u + 1)) : unt l = u := by
  have a := bits_iff l (u + 1) h
  have b := bits_iff l u h
  rw [unt]; omega
theorem mag_is (d m : Nat) (h : 2 * 10 ^ d < 18446744073709551616) (h1 : 2 * 10 ^ d ≤ 2 ^ m) (h2 : 0 < m → 2 ^ (m - 1) < 2 * 10 ^ d) : mag d = m := by
  have p : 0 < 10 ^ d := Nat.pow_pos (by decide)
  have a := bits_iff (2 * 10 ^ d - 1) m (by omega)
  have b := bits_iff (2 * 10 ^ d - 1) (m - 1) (by omega)
  rw [mag]
  by_cases hm : m = 0
  · omega
  · have := h2 (by omega); omega
theorem mag_ge (d : Nat) (h : 2 * 10 ^ d < 18446744073709551616) (hd : 1 ≤ mag d) : 10 ^ d ≤ 2 ^ (mag d - 1) := by
  have a := bits_iff (2 * 10 ^ d - 1) (mag d) (by omega)
  have e := half_two (mag d) hd
  have p : 0 < 10 ^ d := Nat.pow_pos (by decide)
  have := a.1 (Nat.le_refl _)
  omega
theorem mag_bd (d : Nat) (h1 : 1 ≤ d) (h5 : d ≤ 5) : 5 ≤ mag d ∧ mag d ≤ 18 := by
  obtain rfl | rfl | rfl | rfl | rfl : d = 1 ∨ d = 2 ∨ d = 3 ∨ d = 4 ∨ d = 5 := by omega
  all_goals decide
theorem unt_bd (l : Nat) (h : l < 18446744073709551616) : unt l ≤ 63 := by
  have a := bits_iff l 64 h
  have := a.2 h
  rw [unt]; omega
theorem unt_le (l : Nat) (h0 : 0 < l) (h : l < 18446744073709551616) : 2 ^ unt l ≤ l ∧ l < 2 * 2 ^ unt l := by
  obtain ⟨a, b⟩ := bitLen_bd l h0 h
  have c := bits_iff l 0 h
  have e : 2 ^ Lib.bitLen l = 2 * 2 ^ unt l := half_two _ (by have := two_pos 0; simp at c; omega)
  omega

end Go.Proofs.YthfcfmnaiopogaaGreat

/- A map of cells: its block; half, width, bucket, Unit, Magnitude, Shape. -/
namespace Go.Proofs.YthfcfmnaiopogaaGreat
open Go.RowKit

/-- block g is a map of the shape of these numbers, with unit u and magnitude m -/
structure MapIs (w : World) (g : Nat) (lo hi d : Int) (u m : Nat) : Prop where
  lt : g < w.heap.size
  c0 : w.cell? ⟨g, 0, none⟩ = some (.int .i64 lo)
  c1 : w.cell? ⟨g, 1, none⟩ = some (.int .i64 hi)
  c2 : w.cell? ⟨g, 2, none⟩ = some (.int .i64 d)
  c3 : w.cell? ⟨g, 3, none⟩ = some (.int .i64 (u : Nat))
  c4 : w.cell? ⟨g, 4, none⟩ = some (.int .i64 (m : Nat))
  h5 : 5 ≤ m
  hx : m ≤ 18
  hs : u + m ≤ 62
section
variable {w w' : World} {g : Nat} {lo hi d : Int} {u m : Nat}
theorem MapIs.fr0 (s : MapIs w g lo hi d u m) (f : Fr S0 w w') : MapIs w' g lo hi d u m := ⟨Nat.lt_of_lt_of_le s.lt f.size, f.cell s.c0 (fun h => h), f.cell s.c1 (fun h => h), f.cell s.c2 (fun h => h), f.cell s.c3 (fun h => h), f.cell s.c4 (fun h => h), s.h5, s.hx, s.hs⟩
theorem MapIs.hm (s : MapIs w g lo hi d u m) : 1 ≤ m := by have := s.h5; omega
theorem MapIs.drewN (s : MapIs w g lo hi d u m) (n : Nat) : MapIs (w.drewN n) g lo hi d u m := ⟨s.lt, s.c0, s.c1, s.c2, s.c3, s.c4, s.h5, s.hx, s.hs⟩
theorem MapIs.of {X : Array Value} {T : TypeId} {fz : Nat × Nat} (hb : w.heap[g]? = some (.cells X T fz)) (e0 : X[0]? = some (.int .i64 lo)) (e1 : X[1]? = some (.int .i64 hi)) (e2 : X[2]? = some (.int .i64 d)) (e3 : X[3]? = some (.int .i64 (u : Nat))) (e4 : X[4]? = some (.int .i64 (m : Nat))) (h5 : 5 ≤ m) (hx : m ≤ 18) (hs : u + m ≤ 62) : MapIs w g lo hi d u m := ⟨(Array.getElem?_eq_some_iff.1 hb).1, by simp [World.cell?, hb, e0], by simp [World.cell?, hb, e1], by simp [World.cell?, hb, e2], by simp [World.cell?, hb, e3], by simp [World.cell?, hb, e4], h5, hx, hs⟩
end

section
variable (g : Nat) (lo hi d : Int) (u m : Nat) (w : World) (s : MapIs w g lo hi d u m)
include s
set_option maxRecDepth 100000 in
set_option maxHeartbeats 400000 in
theorem half_any : Calls Tryz.prog 112 #[.pointer (some ⟨g, 0, none⟩)] w fun e w' => e = .returned (.int .i64 (2 ^ (m - 1) : Nat)) ∧ w' = w := by
  have c4 := s.c4
  have hs := s.hs
  obtain ⟨k, rfl⟩ : ∃ k, m = k + 1 := ⟨m - 1, by have := s.hm; omega⟩
  have l : 2 ^ k ≤ 2 ^ 62 := two_le (by omega)
  obtain ⟨H, hH⟩ : ∃ H, 2 ^ k = H := ⟨_, rfl⟩
  have e1 : ((k + 1 : Nat) : Int) - 1 = (k : Int) := by omega
  rw [Nat.add_sub_cancel, hH]
  rw [hH] at l
  have wH : (2 : Int) ^ k = (H : Int) := by rw [← hH, Int.natCast_pow]; rfl
  obtain ⟨M, hM⟩ : ∃ M, k + 1 = M := ⟨_, rfl⟩
  rw [hM] at e1 c4
  have hk : k ≤ 61 := by omega
  clear hs hH s hM
  go_enter Tryz.func112, Tryz.ntmps112
  go_wp2_with fail
  go_ret
  exact ⟨rfl, rfl⟩
set_option maxRecDepth 100000 in
set_option maxHeartbeats 400000 in
theorem width_any (b : Nat) (hb : b ≤ 64) : Calls Tryz.prog 114 #[.pointer (some ⟨g, 0, none⟩), .int .i64 (b : Nat)] w fun e w' => e = .returned (.int .i64 (u + b : Nat)) ∧ w' = w := by
  have c3 := s.c3
  have hs := s.hs
  clear s
  go_enter Tryz.func114, Tryz.ntmps114
  go_wp2_with fail
  go_ret
  exact ⟨rfl, rfl⟩
set_option maxRecDepth 100000 in
set_option maxHeartbeats 400000 in
theorem bucket_any (v : Nat) (hv : v < 9223372036854775808) : Calls Tryz.prog 113 #[.pointer (some ⟨g, 0, none⟩), .int .i64 (v : Nat)] w fun e w' => e = .returned (.int .i64 (bkt (u + m) v : Nat)) ∧ Fr S0 w w' := by
  have c3 := s.c3
  have c4 := s.c4
  have hs := s.hs
  have hL : Lib.bitLen v ≤ 64 := (bits_iff v 64 (by omega)).2 (by omega)
  have HL := Lib.hid (fun W => bits_Len64 (v : Int) W (by omega) (by omega))
  have wv : IntKind.u64.wrap (v : Int) = (v : Int) := by rw [IntKind.wrap_u64]; omega
  rw [show ((v : Int).toNat) = v by omega] at HL
  rw [bkt]
  obtain ⟨L, eL⟩ : ∃ L, Lib.bitLen v = L := ⟨_, rfl⟩
  rw [eL] at HL hL ⊢
  obtain ⟨Y, eY⟩ : ∃ Y : Int, (L : Int) - (u : Int) = Y := ⟨_, rfl⟩
  obtain ⟨X, eX⟩ : ∃ X : Int, Y - (m : Int) = X := ⟨_, rfl⟩
  obtain ⟨B, eB⟩ : ∃ B, L - (u + m) = B := ⟨_, rfl⟩
  rw [eB]
  have hY : -64 ≤ Y ∧ Y ≤ 64 := by omega
  have hX : -128 ≤ X ∧ X ≤ 64 := by omega
  have wY : IntKind.i64.wrap Y = Y := by rw [IntKind.wrap_i64]; omega
  have wX : IntKind.i64.wrap X = X := by rw [IntKind.wrap_i64]; omega
  have em : max X 0 = (B : Int) := by omega
  have em2 : (if X < 0 then 0 else X) = (B : Int) := by split <;> omega
  clear s eL eB hL hs
  go_enter Tryz.func113, Tryz.ntmps113
  go_upto_region 15 with fail
  go_region_held3 (fun w' => w'.cell? ⟨g, 3, none⟩ = some (.int .i64 (u : Nat)) ∧ w'.cell? ⟨g, 4, none⟩ = some (.int .i64 (m : Nat)))
    (first
      | (go_split_ands; exact ⟨by assumption, by assumption⟩))
    (first | (go_at_call 139; ((with_reducible refine (HL.out _).mono ?_); rintro _ _ ⟨rfl, rfl⟩)))
  all_goals
    go_wp2_with fail
    go_ret
    exact ⟨rfl, Fr.drew _ _⟩
end
end Go.Proofs.YthfcfmnaiopogaaGreat

/- A cell: where it begins and its size; the three answers by one function value. -/
namespace Go.Proofs.YthfcfmnaiopogaaGreat
open Go.RowKit

theorem results_row {P : Program} {fn : Func} {p : Tmp} {ty : TypeId} (h : fn.results = #[.cell p ty]) (tmps : Array Value) (w : World) {g : Nat} {t : TypeId} {cs : Array Value} {fr : Nat × Nat} {d : TypeDesc}
    (hp : tmps.getD p undef = .pointer (some ⟨g, 0, none⟩)) (hg : w.heap[g]? = some (.cells cs t fr))
    (hu : P.underlying ty = some d) (hd : (match d with | .struct _ | .array _ _ => true | _ => false) = true) (hi : (P.info? ty).map (·.size) = some cs.size) :
    (results fn tmps).run P w = .ok (.agg cs) w := by
  have hrun := run_loadVar_row w g t ty cs fr d hg hu hd hi
  rw [Array.getD_eq_getD_getElem?] at hp
  unfold results
  rw [h]
  simp [hp, asAddr, hrun]
theorem two_set {w : World} {g : Nat} {a b : Value} {t : TypeId} (h : w.heap[g]? = some (.cells #[a, b] t (0, 0))) (x y : Value) : ((w.setCell ⟨g, 0, none⟩ x).setCell ⟨g, 1, none⟩ y).heap[g]? = some (.cells #[x, y] t (0, 0)) := by
  rw [heap_setCell_same _ g 1 _ _ _ (heap_setCell_same w g 0 _ _ _ h)]
  rfl
/-- a block of two cells -/
structure Box2 (w : World) (g : Nat) (a b : Value) : Prop where
  c0 : w.cell? ⟨g, 0, none⟩ = some a
  c1 : w.cell? ⟨g, 1, none⟩ = some b
  f0 : w.frozen? ⟨g, 0, none⟩ = false
  f1 : w.frozen? ⟨g, 1, none⟩ = false
theorem Box2.of {w : World} {g : Nat} {a b : Value} {t : TypeId} (h : w.heap[g]? = some (.cells #[a, b] t (0, 0))) : Box2 w g a b := by
  constructor <;> simp [World.cell?, World.frozen?, h]

set_option maxRecDepth 100000 in
set_option maxHeartbeats 400000 in
theorem size_any (b : Int) (k : Nat) (w : World) (hk : k ≤ 62) :
    Calls Tryz.prog 137 #[.agg #[.int .i64 b, .int .i64 (k : Nat)]] w fun e w' => e = .returned (.int .i64 (2 ^ k : Nat)) ∧ Fr S0 w w' := by
  have l : 2 ^ k ≤ 2 ^ 62 := two_le hk
  obtain ⟨Z, hZ⟩ : ∃ Z, 2 ^ k = Z := ⟨_, rfl⟩
  have wZ : (2 : Int) ^ k = (Z : Int) := by rw [← hZ, Int.natCast_pow]; rfl
  rw [hZ] at l ⊢
  clear hZ
  go_enter Tryz.func137, Tryz.ntmps137
  go_wp2_with fail
  go_ret
  exact ⟨rfl, Fr.alloc _ _ _⟩

set_option maxRecDepth 100000 in
set_option maxHeartbeats 400000 in
theorem low_any (b k : Int) (w : World) :
    Calls Tryz.prog 118 #[.agg #[.int .i64 b, .int .i64 k]] w fun e w' => e = .returned (.int .i64 b) ∧ Fr S0 w w' := by
  go_enter Tryz.func118, Tryz.ntmps118
  go_wp2_with fail
  go_ret
  exact ⟨rfl, Fr.alloc _ _ _⟩

set_option maxRecDepth 100000 in
set_option maxHeartbeats 400000 in
theorem high_any (b k : Nat) (w : World) (hk : k ≤ 62) (hb : b + 2 ^ k ≤ 9223372036854775808) :
    Calls Tryz.prog 106 #[.agg #[.int .i64 (b : Nat), .int .i64 (k : Nat)]] w fun e w' => e = .returned (.int .i64 (b + (2 ^ k - 1) : Nat)) ∧ Fr S0 w w' := by
  have HS := Lib.hid (fun W => size_any b k W hk)
  have p := two_pos k
  obtain ⟨Z, hZ⟩ : ∃ Z, 2 ^ k = Z := ⟨_, rfl⟩
  rw [hZ] at p hb HS ⊢
  obtain ⟨Y, hY⟩ : ∃ Y, Z - 1 = Y := ⟨_, rfl⟩
  obtain ⟨X, hX⟩ : ∃ X, b + Y = X := ⟨_, rfl⟩
  rw [hY, hX]
  have e1 : (Z : Int) - 1 = (Y : Int) := by omega
  have e2 : (b : Int) + (Y : Int) = (X : Int) := by omega
  have wY : IntKind.i64.wrap (Y : Int) = (Y : Int) := by rw [IntKind.wrap_i64]; omega
  have wX : IntKind.i64.wrap (X : Int) = (X : Int) := by rw [IntKind.wrap_i64]; omega
  have hb0 := heap_alloc_new w (.cells #[.int .i64 (b : Nat), .int .i64 (k : Nat)] 161)
  have HC0 := Lib.hid (show (w.alloc (.cells #[.int .i64 (b : Nat), .int .i64 (k : Nat)] 161)).cell? ⟨w.heap.size, 0, none⟩ = some (.int .i64 (b : Nat)) by rw [World.cell?, hb0]; rfl)
  have HC1 := Lib.hid (show (w.alloc (.cells #[.int .i64 (b : Nat), .int .i64 (k : Nat)] 161)).cell? ⟨w.heap.size, 1, none⟩ = some (.int .i64 (k : Nat)) by rw [World.cell?, hb0]; rfl)
  clear hZ hY hX p hb hb0
  go_enter Tryz.func106, Tryz.ntmps106
  go_upto_region 6 with fail
  go_region_held3 (fun w' => w'.cell? ⟨w.heap.size, 0, none⟩ = some (.int .i64 (b : Nat)) ∧ w'.cell? ⟨w.heap.size, 1, none⟩ = some (.int .i64 (k : Nat)))
    (first
      | (go_split_ands; exact ⟨by assumption, by assumption⟩)
      | exact ⟨HC0.out, HC1.out⟩
      | (go_split_ands; exact ⟨f9.cell (by assumption) (fun h => h), f9.cell (by assumption) (fun h => h)⟩))
    (first | (go_at_call 137; ((with_reducible refine (HS.out _).mono ?_); rintro _ _ ⟨rfl, f9⟩; have F9 := Lib.hid f9)))
  all_goals
    go_wp2_with fail
    go_ret
    exact ⟨rfl, (Fr.alloc S0 _ _).trans0 ((Fr.drew _ _).trans0 F9.out)⟩
end Go.Proofs.YthfcfmnaiopogaaGreat

/- The cell of a value; Low, High, Size. -/
namespace Go.Proofs.YthfcfmnaiopogaaGreat
open Go.RowKit

section
variable (g : Nat) (lo hi d : Int) (u m : Nat) (w : World) (s : MapIs w g lo hi d u m)
include s
set_option maxRecDepth 100000 in
set_option maxHeartbeats 400000 in
theorem cell_any (v : Nat) (hv : v < 9223372036854775808) : Calls Tryz.prog 136 #[.pointer (some ⟨g, 0, none⟩), .int .i64 (v : Nat)] w fun e w' => e = .returned (.agg #[.int .i64 (beg u m v : Nat), .int .i64 (hwid u m v : Nat)]) ∧ Fr S0 w w' := by
  have hbk := bkt_most (u + m) v (by have := s.hs; omega) hv
  have HB := Lib.hid (fun W (f : Fr S0 w W) => bucket_any g lo hi d u m W (s.fr0 f) v hv)
  have HW := Lib.hid (fun W (f : Fr S0 w W) => width_any g lo hi d u m W (s.fr0 f) (bkt (u + m) v) (by omega))
  have hk := hwid_most u m v s.hm s.hs hv
  have hE := end_le u m v s.hs hv
  obtain ⟨b, eb⟩ : ∃ b, bkt (u + m) v = b := ⟨_, rfl⟩
  obtain ⟨K, eK⟩ : ∃ K, hwid u m v = K := ⟨_, rfl⟩
  have eK2 : u + b = K := by rw [← eK, hwid, eb]
  rw [eb] at HB HW
  rw [eK2] at HW
  obtain ⟨Q, eQ⟩ : ∃ Q, quo u m v = Q := ⟨_, rfl⟩
  obtain ⟨R, eR⟩ : ∃ R, beg u m v = R := ⟨_, rfl⟩
  have e1 : (v : Int) / 2 ^ K = (Q : Int) := by rw [← eQ, quo, eK, Int.natCast_ediv, Int.natCast_pow]; rfl
  have e2 : (Q : Int) * 2 ^ K = (R : Int) := by rw [← eR, beg, eQ, eK, Int.natCast_mul, Int.natCast_pow]; rfl
  have hR : R < 9223372036854775808 := by have := two_pos (hwid u m v); omega
  have hb0 := heap_alloc_new w (.cells #[.int .i64 0, .int .i64 0] 161)
  have HB0 := Lib.hid hb0
  rw [eR, eK]
  rw [eK] at hk
  clear s hE eQ eR eb eK eK2 hbk hv hb0
  go_enter Tryz.func136, Tryz.ntmps136
  go_wp2_with fail
  refine (HB.out _ (Fr.alloc _ _ _)).mono ?_
  rintro e w1 ⟨rfl, f1⟩
  have F1 := Lib.hid ((Fr.alloc S0 _ _).trans0 f1)
  have HB1 := Lib.hid (f1.row HB0.out (fun h => h))
  clear f1 HB0 HB
  go_wp2_with fail
  refine (HW.out _ F1.out).mono ?_
  rintro e w2 ⟨rfl, rfl⟩
  obtain ⟨q0, q1, z0, z1⟩ := Box2.of HB1.out
  go_wp2_with fail
  refine bodyPost_ret (v := .agg #[.int .i64 (R : Nat), .int .i64 (K : Nat)]) (results_row Tryz.results136 _ _ rfl (two_set HB1.out _ _) Tryz.underlying161 rfl (by kernel_rfl)) rfl ⟨rfl, (F1.out.set _ _ (Nat.le_refl _)).set _ _ (Nat.le_refl _)⟩

set_option maxRecDepth 100000 in
set_option maxHeartbeats 400000 in
theorem tell_low (v : Nat) (hv : v < 9223372036854775808) :
    Calls Tryz.prog 105 #[.pointer (some ⟨g, 0, none⟩), .int .i64 (v : Nat), .func (.func 118) #[] #[]] w fun e w' => e = .returned (.tuple #[.int .i64 (beg u m v : Nat), .int .i64 0]) ∧ Fr S0 w w' := by
  have HC := Lib.hid (cell_any g lo hi d u m w s v hv)
  have HN := Lib.hid (fun W => low_any (beg u m v : Nat) (hwid u m v : Nat) W)
  obtain ⟨B, hB⟩ : ∃ B, beg u m v = B := ⟨_, rfl⟩
  obtain ⟨K, hK⟩ : ∃ K, hwid u m v = K := ⟨_, rfl⟩
  rw [hB, hK] at HC HN
  rw [hB]
  clear s hB hK
  go_enter Tryz.func105, Tryz.ntmps105
  go_wp2_with fail
  refine HC.out.mono ?_
  rintro e w1 ⟨rfl, f1⟩
  have F1 := Lib.hid f1
  clear f1
  go_wp2_with fail
  refine (HN.out _).mono ?_
  rintro e w2 ⟨rfl, f2⟩
  have F2 := Lib.hid (F1.out.trans0 f2)
  clear f2
  go_wp2_with fail
  go_ret2
  exact ⟨rfl, F2.out⟩
omit s in
set_option maxRecDepth 100000 in
set_option maxHeartbeats 400000 in
theorem tell_low_no (v : Int) (hv : v < 0) :
    Calls Tryz.prog 105 #[.pointer (some ⟨g, 0, none⟩), .int .i64 v, .func (.func 118) #[] #[]] w fun e w' => e = .returned (.tuple #[.int .i64 0, .int .i64 5]) ∧ Fr S0 w w' := by
  go_enter Tryz.func105, Tryz.ntmps105
  go_wp2_with fail
  go_ret2
  exact ⟨rfl, Fr.refl _ _⟩
set_option maxRecDepth 100000 in
set_option maxHeartbeats 400000 in
theorem ask_low (v : Nat) (hv : v < 9223372036854775808) :
    Calls Tryz.prog 83 #[.pointer (some ⟨g, 0, none⟩), .int .i64 (v : Nat)] w fun e w' => e = .returned (.tuple #[.int .i64 (beg u m v : Nat), .int .i64 0]) ∧ Fr S0 w w' := by
  have HT := Lib.hid (tell_low g lo hi d u m w s v hv)
  obtain ⟨R, hR⟩ : ∃ R : Nat, beg u m v = R := ⟨_, rfl⟩
  rw [hR] at HT ⊢
  clear s hR
  go_enter Tryz.func83, Tryz.ntmps83
  go_wp2_with fail
  refine HT.out.mono ?_
  rintro e w1 ⟨rfl, f1⟩
  have F1 := Lib.hid f1
  clear f1
  go_wp2_with fail
  go_ret2
  exact ⟨rfl, F1.out⟩
omit s in
set_option maxRecDepth 100000 in
set_option maxHeartbeats 400000 in
theorem ask_low_no (v : Int) (hv : v < 0) :
    Calls Tryz.prog 83 #[.pointer (some ⟨g, 0, none⟩), .int .i64 v] w fun e w' => e = .returned (.tuple #[.int .i64 0, .int .i64 5]) ∧ Fr S0 w w' := by
  have HT := Lib.hid (tell_low_no g w v hv)
  go_enter Tryz.func83, Tryz.ntmps83
  go_wp2_with fail
  refine HT.out.mono ?_
  rintro e w1 ⟨rfl, f1⟩
  have F1 := Lib.hid f1
  clear f1
  go_wp2_with fail
  go_ret2
  exact ⟨rfl, F1.out⟩

set_option maxRecDepth 100000 in
set_option maxHeartbeats 400000 in
theorem tell_high (v : Nat) (hv : v < 9223372036854775808) :
    Calls Tryz.prog 105 #[.pointer (some ⟨g, 0, none⟩), .int .i64 (v : Nat), .func (.func 106) #[] #[]] w fun e w' => e = .returned (.tuple #[.int .i64 (beg u m v + (2 ^ hwid u m v - 1) : Nat), .int .i64 0]) ∧ Fr S0 w w' := by
  have HC := Lib.hid (cell_any g lo hi d u m w s v hv)
  have HN := Lib.hid (fun W => high_any (beg u m v) (hwid u m v) W (hwid_most u m v s.hm s.hs hv) (end_le u m v s.hs hv))
  obtain ⟨B, hB⟩ : ∃ B, beg u m v = B := ⟨_, rfl⟩
  obtain ⟨K, hK⟩ : ∃ K, hwid u m v = K := ⟨_, rfl⟩
  rw [hB, hK] at HC HN
  rw [hB, hK]
  obtain ⟨R, hR⟩ : ∃ R : Nat, B + (2 ^ K - 1) = R := ⟨_, rfl⟩
  rw [hR] at HN ⊢
  clear s hB hK hR
  go_enter Tryz.func105, Tryz.ntmps105
  go_wp2_with fail
  refine HC.out.mono ?_
  rintro e w1 ⟨rfl, f1⟩
  have F1 := Lib.hid f1
  clear f1
  go_wp2_with fail
  refine (HN.out _).mono ?_
  rintro e w2 ⟨rfl, f2⟩
  have F2 := Lib.hid (F1.out.trans0 f2)
  clear f2
  go_wp2_with fail
  go_ret2
  exact ⟨rfl, F2.out⟩
omit s in
set_option maxRecDepth 100000 in
set_option maxHeartbeats 400000 in
theorem tell_high_no (v : Int) (hv : v < 0) :
    Calls Tryz.prog 105 #[.pointer (some ⟨g, 0, none⟩), .int .i64 v, .func (.func 106) #[] #[]] w fun e w' => e = .returned (.tuple #[.int .i64 0, .int .i64 5]) ∧ Fr S0 w w' := by
  go_enter Tryz.func105, Tryz.ntmps105
  go_wp2_with fail
  go_ret2
  exact ⟨rfl, Fr.refl _ _⟩
set_option maxRecDepth 100000 in
set_option maxHeartbeats 400000 in
theorem ask_high (v : Nat) (hv : v < 9223372036854775808) :
    Calls Tryz.prog 65 #[.pointer (some ⟨g, 0, none⟩), .int .i64 (v : Nat)] w fun e w' => e = .returned (.tuple #[.int .i64 (beg u m v + (2 ^ hwid u m v - 1) : Nat), .int .i64 0]) ∧ Fr S0 w w' := by
  have HT := Lib.hid (tell_high g lo hi d u m w s v hv)
  obtain ⟨R, hR⟩ : ∃ R : Nat, beg u m v + (2 ^ hwid u m v - 1) = R := ⟨_, rfl⟩
  rw [hR] at HT ⊢
  clear s hR
  go_enter Tryz.func65, Tryz.ntmps65
  go_wp2_with fail
  refine HT.out.mono ?_
  rintro e w1 ⟨rfl, f1⟩
  have F1 := Lib.hid f1
  clear f1
  go_wp2_with fail
  go_ret2
  exact ⟨rfl, F1.out⟩
omit s in
set_option maxRecDepth 100000 in
set_option maxHeartbeats 400000 in
theorem ask_high_no (v : Int) (hv : v < 0) :
    Calls Tryz.prog 65 #[.pointer (some ⟨g, 0, none⟩), .int .i64 v] w fun e w' => e = .returned (.tuple #[.int .i64 0, .int .i64 5]) ∧ Fr S0 w w' := by
  have HT := Lib.hid (tell_high_no g w v hv)
  go_enter Tryz.func65, Tryz.ntmps65
  go_wp2_with fail
  refine HT.out.mono ?_
  rintro e w1 ⟨rfl, f1⟩
  have F1 := Lib.hid f1
  clear f1
  go_wp2_with fail
  go_ret2
  exact ⟨rfl, F1.out⟩

set_option maxRecDepth 100000 in
set_option maxHeartbeats 400000 in
theorem tell_size (v : Nat) (hv : v < 9223372036854775808) :
    Calls Tryz.prog 105 #[.pointer (some ⟨g, 0, none⟩), .int .i64 (v : Nat), .func (.func 137) #[] #[]] w fun e w' => e = .returned (.tuple #[.int .i64 (2 ^ hwid u m v : Nat), .int .i64 0]) ∧ Fr S0 w w' := by
  have HC := Lib.hid (cell_any g lo hi d u m w s v hv)
  have HN := Lib.hid (fun W => size_any (beg u m v : Nat) (hwid u m v) W (hwid_most u m v s.hm s.hs hv))
  obtain ⟨B, hB⟩ : ∃ B, beg u m v = B := ⟨_, rfl⟩
  obtain ⟨K, hK⟩ : ∃ K, hwid u m v = K := ⟨_, rfl⟩
  rw [hB, hK] at HC HN
  rw [hK]
  obtain ⟨R, hR⟩ : ∃ R : Nat, 2 ^ K = R := ⟨_, rfl⟩
  rw [hR] at HN ⊢
  clear s hB hK hR
  go_enter Tryz.func105, Tryz.ntmps105
  go_wp2_with fail
  refine HC.out.mono ?_
  rintro e w1 ⟨rfl, f1⟩
  have F1 := Lib.hid f1
  clear f1
  go_wp2_with fail
  refine (HN.out _).mono ?_
  rintro e w2 ⟨rfl, f2⟩
  have F2 := Lib.hid (F1.out.trans0 f2)
  clear f2
  go_wp2_with fail
  go_ret2
  exact ⟨rfl, F2.out⟩
omit s in
set_option maxRecDepth 100000 in
set_option maxHeartbeats 400000 in
theorem tell_size_no (v : Int) (hv : v < 0) :
    Calls Tryz.prog 105 #[.pointer (some ⟨g, 0, none⟩), .int .i64 v, .func (.func 137) #[] #[]] w fun e w' => e = .returned (.tuple #[.int .i64 0, .int .i64 5]) ∧ Fr S0 w w' := by
  go_enter Tryz.func105, Tryz.ntmps105
  go_wp2_with fail
  go_ret2
  exact ⟨rfl, Fr.refl _ _⟩
set_option maxRecDepth 100000 in
set_option maxHeartbeats 400000 in
theorem ask_size (v : Nat) (hv : v < 9223372036854775808) :
    Calls Tryz.prog 127 #[.pointer (some ⟨g, 0, none⟩), .int .i64 (v : Nat)] w fun e w' => e = .returned (.tuple #[.int .i64 (2 ^ hwid u m v : Nat), .int .i64 0]) ∧ Fr S0 w w' := by
  have HT := Lib.hid (tell_size g lo hi d u m w s v hv)
  obtain ⟨R, hR⟩ : ∃ R : Nat, 2 ^ hwid u m v = R := ⟨_, rfl⟩
  rw [hR] at HT ⊢
  clear s hR
  go_enter Tryz.func127, Tryz.ntmps127
  go_wp2_with fail
  refine HT.out.mono ?_
  rintro e w1 ⟨rfl, f1⟩
  have F1 := Lib.hid f1
  clear f1
  go_wp2_with fail
  go_ret2
  exact ⟨rfl, F1.out⟩
omit s in
set_option maxRecDepth 100000 in
set_option maxHeartbeats 400000 in
theorem ask_size_no (v : Int) (hv : v < 0) :
    Calls Tryz.prog 127 #[.pointer (some ⟨g, 0, none⟩), .int .i64 v] w fun e w' => e = .returned (.tuple #[.int .i64 0, .int .i64 5]) ∧ Fr S0 w w' := by
  have HT := Lib.hid (tell_size_no g w v hv)
  go_enter Tryz.func127, Tryz.ntmps127
  go_wp2_with fail
  refine HT.out.mono ?_
  rintro e w1 ⟨rfl, f1⟩
  have F1 := Lib.hid f1
  clear f1
  go_wp2_with fail
  go_ret2
  exact ⟨rfl, F1.out⟩
end
end Go.Proofs.YthfcfmnaiopogaaGreat

/- Index, Value, Same, Buckets, Cells, Top. -/
namespace Go.Proofs.YthfcfmnaiopogaaGreat
open Go.RowKit

theorem half_le {m : Nat} (h : m ≤ 18) : 2 ^ (m - 1) ≤ 131072 := two_le (b := 17) (by omega)
theorem bkt_top (s : Nat) : bkt s 9223372036854775807 = 63 - s := by
  rw [bkt, show Lib.bitLen 9223372036854775807 = 63 by decide]
/-- how many buckets a number counts as -/
def cntB (n : Int) : Nat := (min (max n 1) 64).toNat
theorem cntB_bd (n : Int) : 1 ≤ cntB n ∧ cntB n ≤ 64 := by unfold cntB; omega

set_option maxRecDepth 100000 in
set_option maxHeartbeats 400000 in
theorem counted_any (n : Int) (w : World) : Calls Tryz.prog 132 #[.int .i64 n] w fun e w' => e = .returned (.int .i64 (cntB n : Nat)) ∧ w' = w := by
  obtain ⟨M, hM⟩ : ∃ M, max n 1 = M := ⟨_, rfl⟩
  obtain ⟨C, hC⟩ : ∃ C, cntB n = C := ⟨_, rfl⟩
  have eC : min M 64 = (C : Int) := by rw [← hC, ← hM, cntB]; omega
  rw [hC]
  clear hC
  go_enter Tryz.func132, Tryz.ntmps132
  go_wp2_with fail
  go_ret
  exact ⟨rfl, rfl⟩

section
variable (g : Nat) (lo hi d : Int) (u m : Nat) (w : World) (s : MapIs w g lo hi d u m)
include s
set_option maxRecDepth 100000 in
set_option maxHeartbeats 400000 in
theorem index_any (v : Nat) (hv : v < 9223372036854775808) :
    Calls Tryz.prog 110 #[.pointer (some ⟨g, 0, none⟩), .int .i64 (v : Nat)] w fun e w' => e = .returned (.tuple #[.int .i64 (idx u m v : Nat), .int .i64 0]) ∧ Fr S0 w w' := by
  have hbk := bkt_most (u + m) v (by have := s.hs; omega) hv
  have HB := Lib.hid (fun W (f : Fr S0 w W) => bucket_any g lo hi d u m W (s.fr0 f) v hv)
  have HW := Lib.hid (fun W (f : Fr S0 w W) => width_any g lo hi d u m W (s.fr0 f) (bkt (u + m) v) (by omega))
  have HH := Lib.hid (fun W (f : Fr S0 w W) => half_any g lo hi d u m W (s.fr0 f))
  have hH := half_le s.hx
  have hq := quo_lt u m v (by omega)
  have hm18 : 2 ^ m ≤ 262144 := two_le (b := 18) s.hx
  have eI : bkt (u + m) v * 2 ^ (m - 1) + quo u m v = idx u m v := rfl
  obtain ⟨b, eb⟩ : ∃ b, bkt (u + m) v = b := ⟨_, rfl⟩
  obtain ⟨K, eK⟩ : ∃ K, hwid u m v = K := ⟨_, rfl⟩
  obtain ⟨H, eH⟩ : ∃ H, 2 ^ (m - 1) = H := ⟨_, rfl⟩
  have eK2 : u + b = K := by rw [← eK, hwid, eb]
  rw [eb] at HB HW eI hbk
  rw [eK2] at HW
  rw [eH] at HH eI hH
  obtain ⟨Q, eQ⟩ : ∃ Q, quo u m v = Q := ⟨_, rfl⟩
  have e1 : (v : Int) / 2 ^ K = (Q : Int) := by rw [← eQ, quo, eK, Int.natCast_ediv, Int.natCast_pow]; rfl
  obtain ⟨P, eP⟩ : ∃ P, b * H = P := ⟨_, rfl⟩
  obtain ⟨I, eJ⟩ : ∃ I, idx u m v = I := ⟨_, rfl⟩
  rw [eQ, eP, eJ] at eI
  have hP : P ≤ 63 * 131072 := by rw [← eP]; exact Nat.mul_le_mul (by omega) hH
  have e2 : (b : Int) * (H : Int) = (P : Int) := by rw [← eP, Int.natCast_mul]
  have e3 : (P : Int) + (Q : Int) = (I : Int) := by omega
  have hI : I ≤ 100000000 := by omega
  have hk := hwid_most u m v s.hm s.hs hv
  rw [eK] at hk
  rw [eJ]
  clear s hm18 hq eb eK eK2 eH eQ eP eI eJ hbk hH hv
  go_enter Tryz.func110, Tryz.ntmps110
  go_wp2_with fail
  refine (HB.out _ (Fr.refl _ _)).mono ?_
  rintro e w1 ⟨rfl, f1⟩
  have F1 := Lib.hid f1
  clear f1
  go_wp2_with fail
  refine (HH.out _ F1.out).mono ?_
  rintro e w2 ⟨rfl, rfl⟩
  go_wp2_with fail
  refine (HW.out _ F1.out).mono ?_
  rintro e w3 ⟨rfl, rfl⟩
  go_wp2_with fail
  go_ret2
  exact ⟨rfl, F1.out⟩
omit s in
set_option maxRecDepth 100000 in
set_option maxHeartbeats 400000 in
theorem index_no (v : Int) (hv : v < 0) :
    Calls Tryz.prog 110 #[.pointer (some ⟨g, 0, none⟩), .int .i64 v] w fun e w' => e = .returned (.tuple #[.int .i64 0, .int .i64 5]) ∧ Fr S0 w w' := by
  go_enter Tryz.func110, Tryz.ntmps110
  go_wp2_with fail
  go_ret2
  exact ⟨rfl, Fr.refl _ _⟩

set_option maxRecDepth 100000 in
set_option maxHeartbeats 400000 in
theorem value_neg (i : Int) (h0 : i < 0) (h1 : -9223372036854775808 ≤ i) :
    Calls Tryz.prog 75 #[.pointer (some ⟨g, 0, none⟩), .int .i64 i] w fun e w' => e = .returned (.tuple #[.int .i64 0, .int .i64 5]) ∧ Fr S0 w w' := by
  have HH := Lib.hid (half_any g lo hi d u m w s)
  have hH := half_le s.hx
  have p : 2 ^ 1 ≤ 2 ^ (m - 1) := two_le (by have := s.h5; omega)
  obtain ⟨H, eH⟩ : ∃ H, 2 ^ (m - 1) = H := ⟨_, rfl⟩
  rw [eH] at HH hH p
  obtain ⟨T, eT⟩ : ∃ T, i.tdiv (H : Int) = T := ⟨_, rfl⟩
  have hT : -4611686018427387905 ≤ T ∧ T ≤ 0 := by
    obtain ⟨k, rfl⟩ : ∃ k : Nat, i = -(k : Int) := ⟨i.natAbs, by omega⟩
    rw [Int.neg_tdiv, Int.tdiv_eq_ediv_of_nonneg (by omega), ← Int.natCast_ediv] at eT
    have : k / H ≤ k / 2 := Nat.div_le_div_left (by omega) (by omega)
    generalize k / H = Z at *
    omega
  obtain ⟨X, eX⟩ : ∃ X, T - 1 = X := ⟨_, rfl⟩
  have em : max X 0 = 0 := by omega
  have hX : X ≤ 0 ∧ -4611686018427387906 ≤ X := by omega
  clear s eH
  go_enter Tryz.func75, Tryz.ntmps75
  go_wp2_with fail
  refine HH.out.mono ?_
  rintro e w2 ⟨rfl, rfl⟩
  go_wp2_with fail
  go_ret2
  exact ⟨rfl, Fr.refl _ _⟩
set_option maxRecDepth 100000 in
set_option maxHeartbeats 400000 in
theorem value_no (n : Nat) (hn : n < 9223372036854775808) (h : 63 - (u + m) < ibk m n) :
    Calls Tryz.prog 75 #[.pointer (some ⟨g, 0, none⟩), .int .i64 (n : Nat)] w fun e w' => e = .returned (.tuple #[.int .i64 0, .int .i64 5]) ∧ Fr S0 w w' := by
  have HB := Lib.hid (bucket_any g lo hi d u m w s 9223372036854775807 (by omega))
  rw [bkt_top] at HB
  have HH := Lib.hid (half_any g lo hi d u m w s)
  have p := two_pos (m - 1)
  obtain ⟨H, eH⟩ : ∃ H, 2 ^ (m - 1) = H := ⟨_, rfl⟩
  have hD : n / H ≤ n := Nat.div_le_self _ _
  rw [ibk, eH] at h
  rw [eH] at HH p
  obtain ⟨D, eD⟩ : ∃ D, n / H = D := ⟨_, rfl⟩
  obtain ⟨b, eb⟩ : ∃ b, D - 1 = b := ⟨_, rfl⟩
  obtain ⟨T, eT⟩ : ∃ T, 63 - (u + m) = T := ⟨_, rfl⟩
  rw [eD] at h hD
  rw [eb, eT] at h
  rw [eT] at HB
  have e1 : (n : Int) / (H : Int) = (D : Int) := by rw [← eD, Int.natCast_ediv]
  obtain ⟨X, eX⟩ : ∃ X, (D : Int) - 1 = X := ⟨_, rfl⟩
  have em : max X 0 = (b : Int) := by omega
  have hX : X ≤ 9223372036854775807 ∧ -1 ≤ X := by omega
  have hD2 : D ≤ 9223372036854775807 := by omega
  clear s eH eD eb eT hD hn
  go_enter Tryz.func75, Tryz.ntmps75
  go_wp2_with fail
  refine HH.out.mono ?_
  rintro e w2 ⟨rfl, rfl⟩
  go_wp2_with fail
  refine HB.out.mono ?_
  rintro e w3 ⟨rfl, f3⟩
  have F3 := Lib.hid f3
  clear f3
  go_wp2_with fail
  go_ret2
  exact ⟨rfl, F3.out⟩
set_option maxRecDepth 100000 in
set_option maxHeartbeats 400000 in
theorem value_yes (n : Nat) (hn : n < 9223372036854775808) (h : ibk m n ≤ 63 - (u + m)) :
    Calls Tryz.prog 75 #[.pointer (some ⟨g, 0, none⟩), .int .i64 (n : Nat)] w fun e w' => e = .returned (.tuple #[.int .i64 (vof u m n : Nat), .int .i64 0]) ∧ Fr S0 w w' := by
  have HB := Lib.hid (bucket_any g lo hi d u m w s 9223372036854775807 (by omega))
  rw [bkt_top] at HB
  have HH := Lib.hid (fun W (f : Fr S0 w W) => half_any g lo hi d u m W (s.fr0 f))
  have HW := Lib.hid (fun W (f : Fr S0 w W) => width_any g lo hi d u m W (s.fr0 f) (ibk m n) (by omega))
  have p := two_pos (m - 1)
  have hH := half_le s.hx
  have hV := vof_lt u m n s.hm (by have := s.hs; omega) h
  have hV2 := two_pos (u + ibk m n)
  have hq := iqu_lt m n s.hm
  have hm18 : 2 ^ m ≤ 262144 := two_le (b := 18) s.hx
  have hat := iqu_at m n
  have hk : u + ibk m n ≤ 62 := by have := s.hs; have := s.h5; omega
  obtain ⟨b, eb⟩ : ∃ b, ibk m n = b := ⟨_, rfl⟩
  obtain ⟨H, eH⟩ : ∃ H, 2 ^ (m - 1) = H := ⟨_, rfl⟩
  obtain ⟨q, eq⟩ : ∃ q, iqu m n = q := ⟨_, rfl⟩
  obtain ⟨V, eV⟩ : ∃ V, vof u m n = V := ⟨_, rfl⟩
  have eb2 := eb
  rw [ibk, eH] at eb2
  have hD : n / H ≤ n := Nat.div_le_self _ _
  obtain ⟨K, eK⟩ : ∃ K, u + b = K := ⟨_, rfl⟩
  have e5 : (q : Int) * 2 ^ K = (V : Int) := by rw [← eV, vof, eq, eb, eK, Int.natCast_mul, Int.natCast_pow]; rfl
  rw [eb] at h HW hat hk hV hV2
  rw [eK] at HW hk hV hV2
  rw [eH] at HH p hH hat
  obtain ⟨P, eP⟩ : ∃ P, b * H = P := ⟨_, rfl⟩
  rw [eP] at hat
  have eq2 : n - P = q := by rw [← eP, ← eq, iqu, eb, eH]
  have e3 : (b : Int) * (H : Int) = (P : Int) := by rw [← eP, Int.natCast_mul]
  have e4 : (n : Int) - (P : Int) = (q : Int) := by omega
  rw [eV]
  rw [eV] at hV
  rw [eq] at hq
  obtain ⟨D, eD⟩ : ∃ D, n / H = D := ⟨_, rfl⟩
  obtain ⟨T, eT⟩ : ∃ T, 63 - (u + m) = T := ⟨_, rfl⟩
  rw [eD] at eb2 hD
  rw [eT] at h HB
  have e1 : (n : Int) / (H : Int) = (D : Int) := by rw [← eD, Int.natCast_ediv]
  obtain ⟨X, eX⟩ : ∃ X, (D : Int) - 1 = X := ⟨_, rfl⟩
  have em : max X 0 = (b : Int) := by omega
  have hX : X ≤ 9223372036854775807 ∧ -1 ≤ X := by omega
  have hD2 : D ≤ 9223372036854775807 := by omega
  have hP2 : P ≤ 9223372036854775807 := by omega
  have hV3 : V ≤ 9223372036854775807 := by omega
  have hq2 : q ≤ 262144 := by omega
  clear s eH eD eb eb2 eT hD hn hV hV2 hq hm18 hat eq eq2 eV eP eK hH
  go_enter Tryz.func75, Tryz.ntmps75
  go_wp2_with fail
  refine (HH.out _ (Fr.refl _ _)).mono ?_
  rintro e w2 ⟨rfl, rfl⟩
  go_wp2_with fail
  refine HB.out.mono ?_
  rintro e w3 ⟨rfl, f3⟩
  have F3 := Lib.hid f3
  clear f3
  go_wp2_with fail
  refine (HH.out _ F3.out).mono ?_
  rintro e w4 ⟨rfl, rfl⟩
  go_wp2_with fail
  refine (HW.out _ F3.out).mono ?_
  rintro e w5 ⟨rfl, rfl⟩
  go_wp2_with fail
  go_ret2
  exact ⟨rfl, F3.out⟩

set_option maxRecDepth 100000 in
set_option maxHeartbeats 400000 in
theorem buckets_any (v : Int) (hv : v < 9223372036854775808) :
    Calls Tryz.prog 93 #[.pointer (some ⟨g, 0, none⟩), .int .i64 v] w fun e w' => e = .returned (.int .i64 (1 + bkt (u + m) v.toNat : Nat)) ∧ Fr S0 w w' := by
  have HB := Lib.hid (bucket_any g lo hi d u m w s v.toNat (by omega))
  have hb := bkt_most (u + m) v.toNat (by have := s.hs; omega) (by omega)
  obtain ⟨V, eV⟩ : ∃ V, v.toNat = V := ⟨_, rfl⟩
  have em : max v 0 = (V : Int) := by omega
  rw [eV] at HB hb ⊢
  obtain ⟨b, eb⟩ : ∃ b, bkt (u + m) V = b := ⟨_, rfl⟩
  rw [eb] at HB hb ⊢
  have hb2 : b ≤ 63 := by omega
  clear s eb eV hb hv
  go_enter Tryz.func93, Tryz.ntmps93
  go_wp2_with fail
  refine HB.out.mono ?_
  rintro e w1 ⟨rfl, f1⟩
  have F1 := Lib.hid f1
  clear f1
  go_wp2_with fail
  go_ret
  exact ⟨rfl, F1.out⟩

set_option maxRecDepth 100000 in
set_option maxHeartbeats 400000 in
theorem top_any (n : Int) :
    Calls Tryz.prog 98 #[.pointer (some ⟨g, 0, none⟩), .int .i64 n] w fun e w' => e = .returned (.int .i64 (top u m (cntB n) : Nat)) ∧ Fr S0 w w' := by
  have HC := Lib.hid (fun W => counted_any n W)
  have hc := cntB_bd n
  have c3 := s.c3
  have c4 := s.c4
  have hs := s.hs
  have hx := s.hx
  have hT := top_lt u m (cntB n)
  obtain ⟨C, eC⟩ : ∃ C, cntB n = C := ⟨_, rfl⟩
  rw [eC] at HC hc hT ⊢
  obtain ⟨E, eE⟩ : ∃ E, min (u + m + C - 1) 63 = E := ⟨_, rfl⟩
  have eT : top u m C = 2 ^ E - 1 := by rw [top, eE]
  rw [eT] at hT ⊢
  have p := two_pos E
  obtain ⟨Z, eZ⟩ : ∃ Z, 2 ^ E = Z := ⟨_, rfl⟩
  have wZ : (2 : Int) ^ E = (Z : Int) := by rw [← eZ, Int.natCast_pow]; rfl
  rw [eZ] at hT p ⊢
  obtain ⟨T, eT2⟩ : ∃ T, Z - 1 = T := ⟨_, rfl⟩
  have e3 : (Z : Int) - 1 = (T : Int) := by omega
  rw [eT2] at hT ⊢
  obtain ⟨A, eA⟩ : ∃ A, u + m = A := ⟨_, rfl⟩
  obtain ⟨B, eB⟩ : ∃ B, A + C = B := ⟨_, rfl⟩
  obtain ⟨D, eD⟩ : ∃ D, B - 1 = D := ⟨_, rfl⟩
  have e4 : (u : Int) + (m : Int) = (A : Int) := by omega
  have e5 : (A : Int) + (C : Int) = (B : Int) := by omega
  have e6 : (B : Int) - 1 = (D : Int) := by omega
  have w4 : IntKind.i64.wrap (A : Int) = (A : Int) := by rw [IntKind.wrap_i64]; omega
  have w5 : IntKind.i64.wrap (B : Int) = (B : Int) := by rw [IntKind.wrap_i64]; omega
  have w6 : IntKind.i64.wrap (D : Int) = (D : Int) := by rw [IntKind.wrap_i64]; omega
  have e7 : min (D : Int) 63 = (E : Int) := by omega
  have hE : E ≤ 63 := by omega
  have hZ : Z ≤ 9223372036854775808 := by omega
  have hT2 : T ≤ 9223372036854775807 := by omega
  clear s eC eE eT eZ eT2 eA eB eD hc hs hx hT p
  go_enter Tryz.func98, Tryz.ntmps98
  go_upto_region 15 with fail
  go_region_held3 (fun w' => w'.cell? ⟨g, 3, none⟩ = some (.int .i64 (u : Nat)) ∧ w'.cell? ⟨g, 4, none⟩ = some (.int .i64 (m : Nat)))
    (first
      | (go_split_ands; exact ⟨by assumption, by assumption⟩))
    (first | (go_at_call 132; ((with_reducible refine (HC.out _).mono ?_); rintro _ _ ⟨rfl, rfl⟩)))
  all_goals
    go_wp2_with fail
    go_ret
    exact ⟨rfl, Fr.drew _ _⟩

set_option maxRecDepth 100000 in
set_option maxHeartbeats 400000 in
theorem shape_any :
    Calls Tryz.prog 103 #[.pointer (some ⟨g, 0, none⟩)] w fun e w' => e = .returned (.agg #[.int .i64 lo, .int .i64 hi, .int .i64 d]) ∧ Fr S0 w w' := by
  have c0 := fun o => (Fr.alloc S0 w o).cell s.c0 (fun h => h)
  have c1 := fun o => (Fr.alloc S0 w o).cell s.c1 (fun h => h)
  have c2 := fun o => (Fr.alloc S0 w o).cell s.c2 (fun h => h)
  clear s
  go_enter Tryz.func103, Tryz.ntmps103
  go_wp2_with fail
  exact bodyPost_ret (v := .agg #[.int .i64 lo, .int .i64 hi, .int .i64 d]) (by simp [results, Tryz.results103, go_sem]) rfl ⟨rfl, Fr.alloc _ _ _⟩
end
end Go.Proofs.YthfcfmnaiopogaaGreat

/- Top only reads. -/
namespace Go.Proofs.YthfcfmnaiopogaaGreat
open Go.RowKit
section
variable (g : Nat) (lo hi d : Int) (u m : Nat) (w : World) (s : MapIs w g lo hi d u m)
include s
set_option maxRecDepth 100000 in
set_option maxHeartbeats 400000 in
theorem top_quiet (n : Int) :
    Calls Tryz.prog 98 #[.pointer (some ⟨g, 0, none⟩), .int .i64 n] w fun e w' => e = .returned (.int .i64 (top u m (cntB n) : Nat)) ∧ w' = w.drew := by
  have HC := Lib.hid (fun W => counted_any n W)
  have hc := cntB_bd n
  have c3 := s.c3
  have c4 := s.c4
  have hs := s.hs
  have hx := s.hx
  have hT := top_lt u m (cntB n)
  obtain ⟨C, eC⟩ : ∃ C, cntB n = C := ⟨_, rfl⟩
  rw [eC] at HC hc hT ⊢
  obtain ⟨E, eE⟩ : ∃ E, min (u + m + C - 1) 63 = E := ⟨_, rfl⟩
  have eT : top u m C = 2 ^ E - 1 := by rw [top, eE]
  rw [eT] at hT ⊢
  have p := two_pos E
  obtain ⟨Z, eZ⟩ : ∃ Z, 2 ^ E = Z := ⟨_, rfl⟩
  have wZ : (2 : Int) ^ E = (Z : Int) := by rw [← eZ, Int.natCast_pow]; rfl
  rw [eZ] at hT p ⊢
  obtain ⟨T, eT2⟩ : ∃ T, Z - 1 = T := ⟨_, rfl⟩
  have e3 : (Z : Int) - 1 = (T : Int) := by omega
  rw [eT2] at hT ⊢
  obtain ⟨A, eA⟩ : ∃ A, u + m = A := ⟨_, rfl⟩
  obtain ⟨B, eB⟩ : ∃ B, A + C = B := ⟨_, rfl⟩
  obtain ⟨D, eD⟩ : ∃ D, B - 1 = D := ⟨_, rfl⟩
  have e4 : (u : Int) + (m : Int) = (A : Int) := by omega
  have e5 : (A : Int) + (C : Int) = (B : Int) := by omega
  have e6 : (B : Int) - 1 = (D : Int) := by omega
  have w4 : IntKind.i64.wrap (A : Int) = (A : Int) := by rw [IntKind.wrap_i64]; omega
  have w5 : IntKind.i64.wrap (B : Int) = (B : Int) := by rw [IntKind.wrap_i64]; omega
  have w6 : IntKind.i64.wrap (D : Int) = (D : Int) := by rw [IntKind.wrap_i64]; omega
  have e7 : min (D : Int) 63 = (E : Int) := by omega
  have hE : E ≤ 63 := by omega
  have hZ : Z ≤ 9223372036854775808 := by omega
  have hT2 : T ≤ 9223372036854775807 := by omega
  clear s eC eE eT eZ eT2 eA eB eD hc hs hx hT p
  go_enter Tryz.func98, Tryz.ntmps98
  go_upto_region 15 with fail
  go_region_held3 (fun w' => w'.cell? ⟨g, 3, none⟩ = some (.int .i64 (u : Nat)) ∧ w'.cell? ⟨g, 4, none⟩ = some (.int .i64 (m : Nat)))
    (first
      | (go_split_ands; exact ⟨by assumption, by assumption⟩))
    (first | (go_at_call 132; ((with_reducible refine (HC.out _).mono ?_); rintro _ _ ⟨rfl, rfl⟩)))
  all_goals
    go_wp2_with fail
    go_ret
    exact ⟨rfl, rfl⟩

end
end Go.Proofs.YthfcfmnaiopogaaGreat

/- Which shapes may be; the map of a shape. -/
namespace Go.Proofs.YthfcfmnaiopogaaGreat
open Go.RowKit

def May (lo hi d : Int) : Prop := (1 ≤ d ∧ d ≤ 5) ∧ 1 ≤ lo ∧ 2 * lo ≤ hi
def shp (lo hi d : Int) : Value := .agg #[.int .i64 lo, .int .i64 hi, .int .i64 d]

set_option maxRecDepth 100000 in
set_option maxHeartbeats 400000 in
theorem unit_of (l : Nat) (hi d : Int) (w : World) (h0 : 0 < l) (hl : l < 9223372036854775808) :
    Calls Tryz.prog 125 #[.agg #[.int .i64 (l : Nat), .int .i64 hi, .int .i64 d]] w fun e w' => e = .returned (.int .i64 (unt l : Nat)) ∧ Fr S0 w w' := by
  have hL : Lib.bitLen l ≤ 64 := (bits_iff l 64 (by omega)).2 (by omega)
  have hL0 : ¬ Lib.bitLen l ≤ 0 := by rw [bits_iff l 0 (by omega)]; have := two_pos 0; simp; omega
  have HL := Lib.hid (fun W => bits_Len64 (l : Int) W (by omega) (by omega))
  rw [show ((l : Int).toNat) = l by omega] at HL
  rw [unt]
  obtain ⟨L, eL⟩ : ∃ L, Lib.bitLen l = L := ⟨_, rfl⟩
  rw [eL] at HL hL hL0 ⊢
  obtain ⟨U, eU⟩ : ∃ U, L - 1 = U := ⟨_, rfl⟩
  have e1 : (L : Int) - 1 = (U : Int) := by omega
  have hU : U ≤ 64 := by omega
  rw [eU]
  clear eL hL hL0 eU h0
  go_enter Tryz.func125, Tryz.ntmps125
  go_wp2_with fail
  refine (HL.out _).mono ?_
  rintro e w1 ⟨rfl, rfl⟩
  go_wp2_with fail
  go_ret
  exact ⟨rfl, Fr.alloc _ _ _⟩

set_option maxRecDepth 100000 in
set_option maxHeartbeats 400000 in
theorem magnitude_of (lo hi : Int) (D : Nat) (w : World) (h1 : 1 ≤ D) (h5 : D ≤ 5) :
    Calls Tryz.prog 126 #[.agg #[.int .i64 lo, .int .i64 hi, .int .i64 (D : Nat)]] w fun e w' => e = .returned (.int .i64 (mag D : Nat)) ∧ Fr S0 w w' := by
  have hp : 10 ^ D ≤ 10 ^ 5 := Nat.pow_le_pow_right (by decide) h5
  have hp0 : 0 < 10 ^ D := Nat.pow_pos (by decide)
  have HP := Lib.hid (fun W => power_yes D W (by omega))
  have HL := Lib.hid (fun W => bits_Len64 ((2 * 10 ^ D - 1 : Nat) : Int) W (by omega) (by omega))
  rw [show (((2 * 10 ^ D - 1 : Nat) : Int).toNat) = 2 * 10 ^ D - 1 by omega] at HL
  have hm := mag_bd D h1 h5
  rw [mag] at hm ⊢
  obtain ⟨L, eL⟩ : ∃ L, Lib.bitLen (2 * 10 ^ D - 1) = L := ⟨_, rfl⟩
  rw [eL] at HL hm ⊢
  obtain ⟨P, eP⟩ : ∃ P, 10 ^ D = P := ⟨_, rfl⟩
  rw [eP] at HP HL hp hp0
  obtain ⟨Q, eQ⟩ : ∃ Q, 2 * P = Q := ⟨_, rfl⟩
  rw [eQ] at HL
  obtain ⟨R, eR⟩ : ∃ R, Q - 1 = R := ⟨_, rfl⟩
  rw [eR] at HL
  have e1 : 2 * (P : Int) = (Q : Int) := by omega
  have e2 : (Q : Int) - 1 = (R : Int) := by omega
  have hQ : Q ≤ 200000 := by omega
  have hR : R ≤ 200000 := by omega
  clear eL eP eQ eR h1 h5 hp hp0
  go_enter Tryz.func126, Tryz.ntmps126
  go_wp2_with fail
  refine (HP.out _).mono ?_
  rintro e w1 ⟨rfl, f1⟩
  have F1 := Lib.hid ((Fr.alloc S0 _ _).trans0 f1)
  clear f1
  go_wp2_with fail
  refine (HL.out _).mono ?_
  rintro e w2 ⟨rfl, rfl⟩
  go_wp2_with fail
  go_ret
  exact ⟨rfl, F1.out⟩

theorem box3 (w : World) (a b c : Value) (t : TypeId) : (w.alloc (.cells #[a, b, c] t)).cell? ⟨w.heap.size, 0, none⟩ = some a ∧ (w.alloc (.cells #[a, b, c] t)).cell? ⟨w.heap.size, 1, none⟩ = some b ∧ (w.alloc (.cells #[a, b, c] t)).cell? ⟨w.heap.size, 2, none⟩ = some c := by
  have hb0 := heap_alloc_new w (.cells #[a, b, c] t)
  exact ⟨by rw [World.cell?, hb0]; rfl, by rw [World.cell?, hb0]; rfl, by rw [World.cell?, hb0]; rfl⟩

set_option maxRecDepth 100000 in
set_option maxHeartbeats 400000 in
theorem maybe_no (lo hi d : Int) (w : World) (h : ¬ May lo hi d) (hh : -9223372036854775808 ≤ hi ∧ hi ≤ 9223372036854775807) :
    Calls Tryz.prog 124 #[.agg #[.int .i64 lo, .int .i64 hi, .int .i64 d]] w fun e w' => e = .returned (.bool false) ∧ Fr S0 w w' := by
  unfold May at h
  by_cases h1 : d < 1
  · clear h
    go_enter Tryz.func124, Tryz.ntmps124
    go_wp2_with fail
    go_ret
    exact ⟨rfl, Fr.alloc _ _ _⟩
  · by_cases h2 : 5 < d
    · clear h
      go_enter Tryz.func124, Tryz.ntmps124
      go_wp2_with fail
      go_ret
      exact ⟨rfl, Fr.alloc _ _ _⟩
    · by_cases h3 : lo < 1
      · clear h
        go_enter Tryz.func124, Tryz.ntmps124
        go_wp2_with fail
        go_ret
        exact ⟨rfl, Fr.alloc _ _ _⟩
      · obtain ⟨H, hH⟩ : ∃ H, hi.tdiv 2 = H := ⟨_, rfl⟩
        have hH3 : H ≤ hi / 2 + 1 ∧ hi / 2 ≤ H ∧ (0 ≤ hi → H = hi / 2) ∧ (hi < 0 → H ≤ 0) := by
          by_cases hs : 0 ≤ hi
          · rw [Int.tdiv_eq_ediv_of_nonneg hs] at hH; omega
          · obtain ⟨k, rfl⟩ : ∃ k : Nat, hi = -(k : Int) := ⟨hi.natAbs, by omega⟩
            rw [Int.neg_tdiv, Int.tdiv_eq_ediv_of_nonneg (by omega)] at hH; omega
        have h4 : H < lo := by omega
        have hH2 : -9223372036854775808 ≤ H ∧ H ≤ 9223372036854775807 := by omega
        clear h hh hH3
        go_enter Tryz.func124, Tryz.ntmps124
        go_wp2_with fail
        go_ret
        exact ⟨rfl, Fr.alloc _ _ _⟩

set_option maxRecDepth 100000 in
set_option maxHeartbeats 400000 in
theorem maybe_yes (l h D : Nat) (w : World) (h1 : 1 ≤ D) (h5 : D ≤ 5) (h0 : 0 < l) (hh : 2 * l ≤ h) (hb : h < 9223372036854775808) :
    Calls Tryz.prog 124 #[.agg #[.int .i64 (l : Nat), .int .i64 (h : Nat), .int .i64 (D : Nat)]] w fun e w' => e = .returned (.bool (decide (unt l + mag D ≤ 62))) ∧ Fr S0 w w' := by
  have HU := Lib.hid (fun W => unit_of l (h : Int) (D : Int) W h0 (by omega))
  have HM := Lib.hid (fun W => magnitude_of (l : Int) (h : Int) D W h1 h5)
  have hU := unt_bd l (by omega)
  have hM := (mag_bd D h1 h5).2
  obtain ⟨U, eU⟩ : ∃ U, unt l = U := ⟨_, rfl⟩
  obtain ⟨M, eM⟩ : ∃ M, mag D = M := ⟨_, rfl⟩
  rw [eU] at HU hU ⊢
  rw [eM] at HM hM ⊢
  obtain ⟨S, eS⟩ : ∃ S, U + M = S := ⟨_, rfl⟩
  rw [eS]
  have e1 : (U : Int) + (M : Int) = (S : Int) := by omega
  have w1 : IntKind.i64.wrap (S : Int) = (S : Int) := by rw [IntKind.wrap_i64]; omega
  obtain ⟨H, hH⟩ : ∃ H, h / 2 = H := ⟨_, rfl⟩
  have e2 : (h : Int) / 2 = (H : Int) := by omega
  have h4 : l ≤ H := by omega
  have eb : decide ((S : Int) ≤ 62) = decide (S ≤ 62) := decide_eq_decide.2 (by omega)
  have HC := Lib.hid (box3 w (.int .i64 (l : Nat)) (.int .i64 (h : Nat)) (.int .i64 (D : Nat)) 30)
  clear eU eM eS hU hM hh hH
  go_enter Tryz.func124, Tryz.ntmps124
  go_upto_region 7 with fail
  go_region_held3 (fun w' => w'.cell? ⟨w.heap.size, 0, none⟩ = some (.int .i64 (l : Nat)) ∧ w'.cell? ⟨w.heap.size, 1, none⟩ = some (.int .i64 (h : Nat)) ∧ w'.cell? ⟨w.heap.size, 2, none⟩ = some (.int .i64 (D : Nat)))
    (first
      | (go_split_ands; exact ⟨by assumption, by assumption, by assumption⟩)
      | exact HC.out
      | (go_split_ands; exact ⟨f9.cell (by assumption) (fun h => h), f9.cell (by assumption) (fun h => h), f9.cell (by assumption) (fun h => h)⟩))
    (first
      | (go_at_call 125; ((with_reducible refine (HU.out _).mono ?_); rintro _ w3 ⟨rfl, f9⟩; have F9 := Lib.hid f9))
      | (go_at_call 126; ((with_reducible refine (HM.out _).mono ?_); rintro _ w4 ⟨rfl, f9⟩; have F8 := Lib.hid f9)))
  all_goals
    go_wp2_with fail
    go_ret
    first
      | exact ⟨rfl, (Fr.alloc S0 _ _).trans0 ((Fr.drew _ _).trans0 (F9.out.trans0 F8.out))⟩
      | exact ⟨rfl, (Fr.alloc S0 _ _).trans0 ((Fr.drew _ _).trans0 (F8.out.trans0 F9.out))⟩

/-- what New makes -/
structure NewM (w w' : World) (g : Nat) (lo hi d : Int) (u m : Nat) : Prop where
  map : MapIs w' g lo hi d u m
  new : w.heap.size ≤ g
  fr : Fr S0 w w'

set_option maxRecDepth 100000 in
set_option maxHeartbeats 400000 in
theorem new_no (lo hi d : Int) (w : World) (h : ¬ May lo hi d) (hh : -9223372036854775808 ≤ hi ∧ hi ≤ 9223372036854775807) :
    Calls Tryz.prog 92 #[.agg #[.int .i64 lo, .int .i64 hi, .int .i64 d]] w fun e w' => e = .returned (.tuple #[.pointer none, .int .i64 1]) ∧ Fr S0 w w' := by
  have HM := Lib.hid (fun W => maybe_no lo hi d W h hh)
  clear h hh
  go_enter Tryz.func92, Tryz.ntmps92
  go_wp2_with fail
  refine (HM.out _).mono ?_
  rintro e w1 ⟨rfl, f1⟩
  have F1 := Lib.hid ((Fr.alloc S0 _ _).trans0 f1)
  clear f1
  go_wp2_with fail
  go_ret2
  exact ⟨rfl, F1.out⟩

set_option maxRecDepth 100000 in
set_option maxHeartbeats 400000 in
theorem new_big (l h D : Nat) (w : World) (h1 : 1 ≤ D) (h5 : D ≤ 5) (h0 : 0 < l) (hh : 2 * l ≤ h) (hb : h < 9223372036854775808) (hs : 62 < unt l + mag D) :
    Calls Tryz.prog 92 #[.agg #[.int .i64 (l : Nat), .int .i64 (h : Nat), .int .i64 (D : Nat)]] w fun e w' => e = .returned (.tuple #[.pointer none, .int .i64 1]) ∧ Fr S0 w w' := by
  have HM := Lib.hid (fun W => maybe_yes l h D W h1 h5 h0 hh hb)
  rw [show decide (unt l + mag D ≤ 62) = false from decide_eq_false (by omega)] at HM
  clear h1 h5 h0 hh hb hs
  go_enter Tryz.func92, Tryz.ntmps92
  go_wp2_with fail
  refine (HM.out _).mono ?_
  rintro e w1 ⟨rfl, f1⟩
  have F1 := Lib.hid ((Fr.alloc S0 _ _).trans0 f1)
  clear f1
  go_wp2_with fail
  go_ret2
  exact ⟨rfl, F1.out⟩

set_option maxRecDepth 100000 in
set_option maxHeartbeats 400000 in
theorem new_yes (l h D : Nat) (w : World) (h1 : 1 ≤ D) (h5 : D ≤ 5) (h0 : 0 < l) (hh : 2 * l ≤ h) (hb : h < 9223372036854775808) (hs : unt l + mag D ≤ 62) :
    Calls Tryz.prog 92 #[.agg #[.int .i64 (l : Nat), .int .i64 (h : Nat), .int .i64 (D : Nat)]] w fun e w' => ∃ g, e = .returned (.tuple #[.pointer (some ⟨g, 0, none⟩), .int .i64 0]) ∧ NewM w w' g (l : Nat) (h : Nat) (D : Nat) (unt l) (mag D) := by
  have HB := Lib.hid (fun W => maybe_yes l h D W h1 h5 h0 hh hb)
  rw [show decide (unt l + mag D ≤ 62) = true from decide_eq_true (by omega)] at HB
  have HU := Lib.hid (fun W => unit_of l (h : Int) (D : Int) W h0 (by omega))
  have HM := Lib.hid (fun W => magnitude_of (l : Int) (h : Int) D W h1 h5)
  have hM := mag_bd D h1 h5
  obtain ⟨U, eU⟩ : ∃ U, unt l = U := ⟨_, rfl⟩
  obtain ⟨M, eM⟩ : ∃ M, mag D = M := ⟨_, rfl⟩
  rw [eU] at HU hs ⊢
  rw [eM] at HM hM hs ⊢
  have HK := Lib.hid (And.intro hM hs)
  have HC := Lib.hid (box3 w (.int .i64 (l : Nat)) (.int .i64 (h : Nat)) (.int .i64 (D : Nat)) 30)
  clear eU eM hM hs h1 h5 h0 hh hb
  go_enter Tryz.func92, Tryz.ntmps92
  go_wp2_with fail
  refine (HB.out _).mono ?_
  rintro e w1 ⟨rfl, f1⟩
  have F1 := Lib.hid ((Fr.alloc S0 _ _).trans0 f1)
  have HC1 := Lib.hid (And.intro (f1.cell HC.out.1 (fun h => h)) (And.intro (f1.cell HC.out.2.1 (fun h => h)) (f1.cell HC.out.2.2 (fun h => h))))
  clear f1 HC
  go_upto_region 9 with fail
  go_region_held3 (fun w' => w'.cell? ⟨w.heap.size, 0, none⟩ = some (.int .i64 (l : Nat)) ∧ w'.cell? ⟨w.heap.size, 1, none⟩ = some (.int .i64 (h : Nat)) ∧ w'.cell? ⟨w.heap.size, 2, none⟩ = some (.int .i64 (D : Nat)))
    (first
      | (go_split_ands; exact ⟨by assumption, by assumption, by assumption⟩)
      | exact HC1.out
      | (go_split_ands; exact ⟨f9.cell (by assumption) (fun h => h), f9.cell (by assumption) (fun h => h), f9.cell (by assumption) (fun h => h)⟩)
      | (go_split_ands; exact ⟨(Fr.alloc S0 _ _).cell (by assumption) (fun h => h), (Fr.alloc S0 _ _).cell (by assumption) (fun h => h), (Fr.alloc S0 _ _).cell (by assumption) (fun h => h)⟩))
    (first
      | (go_at_call 125; ((with_reducible refine (HU.out _).mono ?_); rintro _ w3 ⟨rfl, f9⟩; have F9 := Lib.hid f9))
      | (go_at_call 126; ((with_reducible refine (HM.out _).mono ?_); rintro _ w4 ⟨rfl, f9⟩; have F8 := Lib.hid f9)))
  all_goals
    go_wp2_with fail
    go_ret2
    have F := F1.out.trans0 ((Fr.drew _ _).trans0 (F9.out.trans0 F8.out))
    exact ⟨_, rfl, .of (heap_alloc_new _ _) rfl rfl rfl rfl rfl HK.out.1.1 HK.out.1.2 HK.out.2, F.size, F.trans0 (Fr.alloc _ _ _)⟩
end Go.Proofs.YthfcfmnaiopogaaGreat
