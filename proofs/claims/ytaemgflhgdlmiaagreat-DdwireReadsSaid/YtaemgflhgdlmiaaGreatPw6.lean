/- SpMath -/
import Derived.Test.YtaemgflhgdlmiaaGreatPw1
import Derived.Test.YtaemgflhgdlmiaaGreatPw4
import Derived.WalkKit
import Derived.WalkSpells
import Derived.WalkLawsBesides
import Derived.Deep.QuietTactic
import Derived.BigQuiet
import Derived.RegionTactic
import Derived.Deep.AppendLies
import Derived.Deep.RegionLaw
import Derived.Laws.ResultCell
import Derived.Laws.EntriesVeiled
import Derived.Lib.Hide
import Derived.Test.YtaemgflhgdlmiaaGreatRows
set_option maxRecDepth 100000
set_option maxHeartbeats 8000000
namespace Go.Proofs.YtaemgflhgdlmiaaGreat
def bel : List Pr → Int → Nat
  | [], _ => 0
  | x :: r, k => (if x.1 < k then x.2 else 0) + bel r k
def upt : List Pr → Int → Nat
  | [], _ => 0
  | x :: r, k => (if x.1 ≤ k then x.2 else 0) + upt r k
theorem upt_bel (l : List Pr) (hs : Srt l) (k : Int) : upt l k = bel l k + cnt l k := by
  induction l with
  | nil => rfl
  | cons x r ih =>
    have hs' := srt_cons.1 hs
    have := ih hs'.2
    rw [upt, bel, cnt]
    by_cases e : x.1 = k
    · rw [if_pos (by omega), if_neg (by omega), if_pos e]
      have h0 : cnt r k = 0 := cnt_out fun y hy => by have := hs'.1 y hy; omega
      omega
    · rw [if_neg e]
      by_cases e2 : x.1 < k
      · rw [if_pos (by omega), if_pos e2]; omega
      · rw [if_neg (by omega), if_neg e2]; omega
theorem bel_zero {l : List Pr} {k : Int} (h : ∀ x ∈ l, k ≤ x.1) : bel l k = 0 := by
  induction l with
  | nil => rfl
  | cons x r ih =>
    have := h x List.mem_cons_self
    rw [bel, if_neg (by omega), ih fun y hy => h y (List.mem_cons_of_mem _ hy)]
def keyW : List Pr → Nat → Int
  | [], _ => 0
  | x :: t, r => if r ≤ x.2 then x.1 else keyW t (r - x.2)
theorem keyW_rank : ∀ {l : List Pr} {r : Nat}, Srt l → 1 ≤ r → r ≤ ltot l → (∃ x ∈ l, x.1 = keyW l r) ∧ bel l (keyW l r) < r ∧ r ≤ upt l (keyW l r)
  | [], r, _, h1, h2 => by simp only [ltot] at h2; omega
  | x :: t, r, hs, h1, h2 => by
    have hs' := srt_cons.1 hs
    rw [keyW]
    by_cases e : r ≤ x.2
    · rw [if_pos e]
      refine ⟨⟨x, List.mem_cons_self, rfl⟩, ?_, ?_⟩
      · rw [bel, if_neg (by omega), bel_zero fun y hy => by have := hs'.1 y hy; omega]; omega
      · rw [upt, if_pos (by omega)]; omega
    · rw [if_neg e]
      rw [ltot] at h2
      obtain ⟨⟨y, hy, ey⟩, k1, k2⟩ := keyW_rank (l := t) (r := r - x.2) hs'.2 (by omega) (by omega)
      have hxy := hs'.1 y hy
      refine ⟨⟨y, List.mem_cons_of_mem _ hy, ey⟩, ?_, ?_⟩
      · rw [bel, if_pos (by omega)]; omega
      · rw [upt, if_pos (by omega)]; omega
def above (l : List Pr) (q : Int) : List Pr := l.filter fun x => q < x.1
theorem above_mem {l : List Pr} {q : Int} {x : Pr} : x ∈ above l q ↔ x ∈ l ∧ q < x.1 := by unfold above; simp
theorem above_srt {l : List Pr} {q : Int} (h : Srt l) : Srt (above l q) := h.filter _
theorem above_pos {l : List Pr} {q : Int} (h : Pos l) : Pos (above l q) := fun x hx => h x (above_mem.1 hx).1
theorem above_cnt (l : List Pr) (q j : Int) : cnt (above l q) j = if q < j then cnt l j else 0 := by
  unfold above
  induction l with
  | nil => simp [cnt]
  | cons x r ih =>
    rw [List.filter_cons]
    by_cases e : q < x.1
    · rw [if_pos (by simpa using e), cnt, cnt, ih]
      by_cases ej : x.1 = j
      · rw [if_pos ej, if_pos (by omega), if_pos ej]
      · rw [if_neg ej]
        by_cases eq : q < j
        · rw [if_pos eq, if_pos eq, if_neg ej]
        · rw [if_neg eq, if_neg eq]
    · rw [if_neg (by simpa using e), cnt, ih]
      by_cases eq : q < j
      · rw [if_pos eq, if_pos eq, if_neg (by omega)]
      · rw [if_neg eq, if_neg eq]
theorem above_tot (l : List Pr) (q : Int) : ltot (above l q) + upt l q = ltot l := by
  unfold above
  induction l with
  | nil => rfl
  | cons x r ih =>
    rw [List.filter_cons, upt, ltot]
    by_cases e : q < x.1
    · rw [if_pos (by simpa using e), if_neg (by omega), ltot]; omega
    · rw [if_neg (by simpa using e), if_pos (by omega)]; omega
theorem above_all {l : List Pr} {q : Int} (h : ∀ x ∈ l, q < x.1) : above l q = l := by
  unfold above
  rw [List.filter_eq_self]
  intro x hx
  simpa using h x hx
theorem above_none {l : List Pr} {q : Int} (h : ∀ x ∈ l, x.1 ≤ q) : above l q = [] := by
  unfold above
  rw [List.filter_eq_nil_iff]
  intro x hx
  have := h x hx
  simp; omega
theorem len_sub : ∀ {u a : List Pr}, Srt a → Srt u → (∀ x ∈ a, ∃ y ∈ u, y.1 = x.1) → a.length ≤ u.length
  | [], a, _, _, h => by
    cases a with
    | nil => exact Nat.le_refl _
    | cons x a => obtain ⟨y, hy, -⟩ := h x List.mem_cons_self; cases hy
  | y :: u, [], _, _, _ => Nat.zero_le _
  | y :: u, x :: a, ha, hu, h => by
    have ha' := srt_cons.1 ha
    have hu' := srt_cons.1 hu
    obtain ⟨z, hz, ez⟩ := h x List.mem_cons_self
    rcases List.mem_cons.1 hz with rfl | hz
    · have := len_sub ha'.2 hu'.2 fun v hv => by
        obtain ⟨s, hs, es⟩ := h v (List.mem_cons_of_mem _ hv)
        have := ha'.1 v hv
        rcases List.mem_cons.1 hs with rfl | hs
        · omega
        · exact ⟨s, hs, es⟩
      simpa using this
    · have hlt := hu'.1 z hz
      have := len_sub ha hu'.2 fun v hv => by
        obtain ⟨s, hs, es⟩ := h v hv
        have hxv : x.1 ≤ v.1 := by
          rcases List.mem_cons.1 hv with rfl | hv
          · omega
          · have := ha'.1 v hv; omega
        rcases List.mem_cons.1 hs with rfl | hs
        · omega
        · exact ⟨s, hs, es⟩
      simp only [List.length_cons] at this ⊢
      omega
def cutN (l : List Pr) (m : Nat) : List Pr :=
  if l.length ≤ m then l else match l.drop (l.length - m) with
    | [] => []
    | x :: t => (x.1, x.2 + ltot (l.take (l.length - m))) :: t
def cutA (l : List Pr) (m : Nat) : Nat := ltot (l.take (l.length - m))
theorem cutA_none {l : List Pr} {m : Nat} (h : l.length ≤ m) : cutA l m = 0 := by unfold cutA; rw [show l.length - m = 0 by omega]; rfl
theorem cut_none {l : List Pr} {m : Nat} (h : l.length ≤ m) : cutN l m = l := if_pos h
theorem tot_app (a b : List Pr) : ltot (a ++ b) = ltot a + ltot b := by
  induction a with
  | nil => simp [ltot]
  | cons x a ih => rw [List.cons_append, ltot, ltot, ih]; omega
theorem cut_parts {l : List Pr} {m : Nat} (hm : 1 ≤ m) (h : m ≤ l.length) : ∃ t x u, l = t ++ x :: u ∧ u.length + 1 = m ∧ t.length = l.length - m ∧ (m < l.length → cutN l m = (x.1, x.2 + ltot t) :: u) := by
  have hd : (l.drop (l.length - m)).length = m := by rw [List.length_drop]; omega
  cases hx : l.drop (l.length - m) with
  | nil => rw [hx] at hd; simp at hd; omega
  | cons x u =>
    rw [hx] at hd
    refine ⟨l.take (l.length - m), x, u, by rw [← hx, List.take_append_drop], by simpa using hd, by rw [List.length_take]; omega, fun hlt => ?_⟩
    unfold cutN
    rw [if_neg (by omega), hx]
theorem above_parts {t u : List Pr} {x : Pr} (hs : Srt (t ++ x :: u)) : above (t ++ x :: u) x.1 = u := by
  have h1 := List.pairwise_append.1 hs
  have h2 := srt_cons.1 h1.2.1
  have e1 : above (t ++ x :: u) x.1 = above t x.1 ++ above (x :: u) x.1 := by unfold above; rw [List.filter_append]
  have e2 : above (x :: u) x.1 = above u x.1 := by unfold above; rw [List.filter_cons, if_neg (by simp)]
  rw [e1, e2, above_none fun y hy => by have := h1.2.2 y hy x List.mem_cons_self; omega, above_all fun y hy => h2.1 y hy]
  rfl
theorem cut_at {l : List Pr} {m : Nat} {q : Int} (hs : Srt l) (hq : cnt l q ≠ 0) (h : (above l q).length + 1 = m) : cutN l m = (q, upt l q) :: above l q := by
  obtain ⟨z, hz, ez⟩ := cnt_in hq
  obtain ⟨t, u, e⟩ := List.append_of_mem hz
  subst ez
  subst e
  have ea := above_parts hs
  rw [ea] at h ⊢
  have h1 := List.pairwise_append.1 hs
  have h2 := srt_cons.1 h1.2.1
  have ht := above_tot (t ++ z :: u) z.1
  rw [ea, tot_app, ltot] at ht
  by_cases hlt : (t ++ z :: u).length ≤ m
  · have ht0 : t = [] := by
      rw [List.length_append, List.length_cons] at hlt
      exact List.eq_nil_of_length_eq_zero (by omega)
    subst ht0
    rw [cut_none hlt]
    simp only [List.nil_append, ltot] at ht ⊢
    rw [show upt (z :: u) z.1 = z.2 by omega]
  · obtain ⟨t', x, u', e, e1, e2, e3⟩ := cut_parts (l := t ++ z :: u) (m := m) (by omega) (by omega)
    rw [e3 (by omega)]
    have hl : t.length = t'.length := by rw [e2, List.length_append, List.length_cons]; omega
    obtain ⟨r1, r2⟩ := List.append_inj e hl
    obtain ⟨rfl, rfl⟩ := List.cons.inj r2
    subst r1
    rw [show upt (t ++ z :: u) z.1 = z.2 + ltot t by omega]
theorem cut_key {l : List Pr} {m : Nat} (hs : Srt l) (hp : Pos l) (hm : 1 ≤ m) (h : m ≤ l.length) : ∃ q, cnt l q ≠ 0 ∧ (above l q).length + 1 = m := by
  obtain ⟨t, x, u, e, e1, -, -⟩ := cut_parts hm h
  refine ⟨x.1, cnt_ne hs hp (by rw [e]; simp), ?_⟩
  rw [e] at hs ⊢
  rw [above_parts hs]
  exact e1
theorem cut_cnt {l : List Pr} {m : Nat} {q : Int} (hs : Srt l) (hq : cnt l q ≠ 0) (h : (above l q).length + 1 = m) (j : Int) : cnt (cutN l m) j = if j < q then 0 else if j = q then upt l q else cnt l j := by
  rw [cut_at hs hq h, cnt, above_cnt]
  simp only
  by_cases e : q = j
  · rw [if_pos e, if_neg (by omega), if_pos e.symm]
  · rw [if_neg e]
    by_cases e2 : j < q
    · rw [if_pos e2, if_neg (by omega)]
    · rw [if_neg e2, if_pos (show q < j by omega), if_neg (show ¬ j = q by omega)]
theorem cut_srt {l : List Pr} {m : Nat} (hs : Srt l) (hp : Pos l) (hm : 1 ≤ m) : Srt (cutN l m) := by
  by_cases h : l.length ≤ m
  · rw [cut_none h]; exact hs
  · obtain ⟨q, h1, h2⟩ := cut_key hs hp hm (by omega)
    rw [cut_at hs h1 h2]
    exact srt_cons.2 ⟨fun y hy => (above_mem.1 hy).2, above_srt hs⟩
theorem upt_ne {l : List Pr} {q : Int} (hs : Srt l) (h : cnt l q ≠ 0) : upt l q ≠ 0 := by rw [upt_bel l hs]; omega
theorem cut_pos {l : List Pr} {m : Nat} (hs : Srt l) (hp : Pos l) (hm : 1 ≤ m) : Pos (cutN l m) := by
  by_cases h : l.length ≤ m
  · rw [cut_none h]; exact hp
  · obtain ⟨q, h1, h2⟩ := cut_key hs hp hm (by omega)
    rw [cut_at hs h1 h2]
    exact pos_cons.2 ⟨by have := upt_ne hs h1; simp only; omega, above_pos hp⟩
theorem cut_len {l : List Pr} {m : Nat} (hs : Srt l) (hp : Pos l) (hm : 1 ≤ m) : (cutN l m).length ≤ m := by
  by_cases h : l.length ≤ m
  · rw [cut_none h]; exact h
  · obtain ⟨q, h1, h2⟩ := cut_key hs hp hm (by omega)
    rw [cut_at hs h1 h2, List.length_cons]; omega
theorem cut_tot {l : List Pr} {m : Nat} (hs : Srt l) (hp : Pos l) (hm : 1 ≤ m) : ltot (cutN l m) = ltot l := by
  by_cases h : l.length ≤ m
  · rw [cut_none h]
  · obtain ⟨q, h1, h2⟩ := cut_key hs hp hm (by omega)
    have := above_tot l q
    rw [cut_at hs h1 h2, ltot]
    simp only
    omega
theorem cut_mem {l : List Pr} {m : Nat} (hs : Srt l) (hp : Pos l) (hm : 1 ≤ m) {x : Pr} (hx : x ∈ cutN l m) : ∃ y ∈ l, y.1 = x.1 := by
  by_cases h : l.length ≤ m
  · rw [cut_none h] at hx; exact ⟨x, hx, rfl⟩
  · obtain ⟨q, h1, h2⟩ := cut_key hs hp hm (by omega)
    rw [cut_at hs h1 h2] at hx
    rcases List.mem_cons.1 hx with rfl | hx
    · obtain ⟨y, hy, e⟩ := cnt_in h1
      exact ⟨y, hy, e⟩
    · exact ⟨x, (above_mem.1 hx).1, rfl⟩
theorem cut_beside {a u : List Pr} {m : Nat} {q : Int} (ha : Srt a) (pa : Pos a) (hu : Srt u) (hm : 1 ≤ m) (hin : ∀ x ∈ a, ∃ y ∈ u, y.1 = x.1) (hq : (above u q).length + 1 = m) :
    (∀ j, q < j → cnt (cutN a m) j = cnt a j) ∧ (cnt a q ≠ 0 → cnt (cutN a m) q ≠ 0) := by
  by_cases h : a.length ≤ m
  · rw [cut_none h]; exact ⟨fun _ _ => rfl, id⟩
  · obtain ⟨p, h1, h2⟩ := cut_key ha pa hm (by omega)
    have hpq : p ≤ q := by
      rcases (by omega : p ≤ q ∨ q < p) with h | h
      · exact h
      · obtain ⟨z, hz, ez⟩ := cnt_in h1
        have hs2 : Srt (z :: above a p) := srt_cons.2 ⟨fun y hy => by have := (above_mem.1 hy).2; omega, above_srt ha⟩
        have := len_sub (u := above u q) hs2 (above_srt hu) fun x hx => by
          rcases List.mem_cons.1 hx with rfl | hx
          · obtain ⟨y, hy, e⟩ := hin x hz
            exact ⟨y, above_mem.2 ⟨hy, by omega⟩, e⟩
          · obtain ⟨hx1, hx2⟩ := above_mem.1 hx
            obtain ⟨y, hy, e⟩ := hin x hx1
            exact ⟨y, above_mem.2 ⟨hy, by omega⟩, e⟩
        rw [List.length_cons] at this
        omega
    refine ⟨fun j hj => ?_, fun hc => ?_⟩
    · rw [cut_cnt ha h1 h2, if_neg (by omega), if_neg (by omega)]
    · rw [cut_cnt ha h1 h2, if_neg (by omega)]
      by_cases e : q = p
      · rw [if_pos e]; exact upt_ne ha h1 |> fun h => e ▸ h
      · rw [if_neg e]; exact hc
theorem cut_merge {a b : List Pr} {m : Nat} (ha : Srt a) (pa : Pos a) (hb : Srt b) (pb : Pos b) (hm : 1 ≤ m) : cutN (lputs (cutN a m) (cutN b m)) m = cutN (lputs a b) m := by
  have hu := putAll_srt ha b
  have pu := putAll_pos pa pb
  have ina : ∀ x ∈ a, ∃ y ∈ lputs a b, y.1 = x.1 := fun x hx => cnt_in (by rw [cnt_putAll _ _ _ ha hb]; have := cnt_ne ha pa hx; omega)
  have inb : ∀ x ∈ b, ∃ y ∈ lputs a b, y.1 = x.1 := fun x hx => cnt_in (by rw [cnt_putAll _ _ _ ha hb]; have := cnt_ne hb pb hx; omega)
  by_cases h : (lputs a b).length < m
  · have h1 := len_sub ha hu ina
    have h2 := len_sub hb hu inb
    rw [cut_none (l := a) (by omega), cut_none (l := b) (by omega)]
  · obtain ⟨q, hq, hl⟩ := cut_key hu pu hm (by omega)
    obtain ⟨a1, a2⟩ := cut_beside ha pa hu hm ina hl
    obtain ⟨b1, b2⟩ := cut_beside hb pb hu hm inb hl
    have sa := cut_srt ha pa hm
    have sb := cut_srt hb pb hm
    have hv := putAll_srt sa (cutN b m)
    have pv := putAll_pos (cut_pos ha pa hm) (cut_pos hb pb hm)
    have hqv : cnt (lputs (cutN a m) (cutN b m)) q ≠ 0 := by
      rw [cnt_putAll _ _ _ ha hb] at hq
      rw [cnt_putAll _ _ _ sa sb]
      rcases (by omega : cnt a q ≠ 0 ∨ cnt b q ≠ 0) with h | h
      · have := a2 h; omega
      · have := b2 h; omega
    have ea : above (lputs (cutN a m) (cutN b m)) q = above (lputs a b) q := ext_cnt (above_srt hv) (above_srt hu) (above_pos pv) (above_pos pu) fun j => by
      rw [above_cnt, above_cnt]
      by_cases hj : q < j
      · rw [if_pos hj, if_pos hj, cnt_putAll _ _ _ sa sb, cnt_putAll _ _ _ ha hb, a1 j hj, b1 j hj]
      · rw [if_neg hj, if_neg hj]
    have t1 := above_tot (lputs (cutN a m) (cutN b m)) q
    have t2 := above_tot (lputs a b) q
    rw [tot_putAll, cut_tot ha pa hm, cut_tot hb pb hm, ea] at t1
    rw [tot_putAll] at t2
    rw [cut_at hv hqv (by rw [ea]; exact hl), cut_at hu hq hl, ea, show upt (lputs (cutN a m) (cutN b m)) q = upt (lputs a b) q by omega]
end Go.Proofs.YtaemgflhgdlmiaaGreat
