/- SpList, ClMath -/
import Derived.Test.YtaemgflhgdlmiaaGreatPw1
import Derived.Test.YtaemgflhgdlmiaaGreatPw2
import Derived.Test.YtaemgflhgdlmiaaGreatPw4
import Derived.Test.YtaemgflhgdlmiaaGreatPw5
import Derived.Test.YtaemgflhgdlmiaaGreatPw6
import Derived.WalkKit
import Derived.WalkSpells
import Derived.WalkLawsBesides
import Derived.Deep.QuietTactic
import Derived.BigQuiet
import Derived.RegionTactic
import Derived.Deep.AppendLies
import Derived.Deep.RegionLaw
import Derived.Laws.ResultCell
import Derived.Laws.EntriesVeiled
import Derived.Lib.Hide
import Derived.Test.YtaemgflhgdlmiaaGreatRows
import Derived.StillTailTactics
import Derived.BigRegion
import Derived.Laws.BytesArg
import Derived.Lib.SlBytesConst
import Derived.Maps.AppendAt
import Derived.Laws.AppendOwnNone
set_option maxRecDepth 100000
set_option maxHeartbeats 8000000
namespace Go.Proofs.YtaemgflhgdlmiaaGreat
theorem prs_app (a b : List Pr) : prs (a ++ b) = prs a ++ prs b := by simp [prs]
theorem prs_cons (t : Pr) (l : List Pr) : prs (t :: l) = .int .i64 t.1 :: .int .u64 (t.2 : Int) :: prs l := by simp [prs]
theorem prs_one (l : List Pr) : ∀ u ∈ prs l, u.oneCell' = true := by
  intro u hu
  unfold prs at hu
  obtain ⟨t, -, ht⟩ := List.mem_flatMap.1 hu
  simp only [List.mem_cons, List.not_mem_nil, or_false] at ht
  rcases ht with rfl | rfl <;> rfl
theorem prs_take (l : List Pr) (i : Nat) : prs (l.take i) = (prs l).take (i * 2) := by
  induction l generalizing i with
  | nil => simp [prs]
  | cons x l ih =>
    cases i with
    | zero => simp [prs]
    | succ i =>
      rw [List.take_succ_cons, prs_cons, prs_cons, ih, show (i + 1) * 2 = i * 2 + 1 + 1 by omega, List.take_succ_cons, List.take_succ_cons]
theorem prs_drop (l : List Pr) (i : Nat) : prs (l.drop i) = (prs l).drop (i * 2) := by
  induction l generalizing i with
  | nil => simp [prs]
  | cons x l ih =>
    cases i with
    | zero => simp [prs]
    | succ i =>
      rw [List.drop_succ_cons, prs_cons, ih, show (i + 1) * 2 = i * 2 + 1 + 1 by omega, List.drop_succ_cons, List.drop_succ_cons]
theorem prs_set (a : List Pr) (k : Int) (n m : Nat) (b : List Pr) (i : Nat) (hi : a.length = i) : (prs (a ++ (k, n) :: b)).set (i * 2 + 1) (.int .u64 (m : Int)) = prs (a ++ (k, m) :: b) := by
  subst hi
  rw [prs_app, prs_cons, prs_app, prs_cons, List.set_append, if_neg (by rw [prs_len]; omega), prs_len]
  rw [show a.length * 2 + 1 - a.length * 2 = 1 by omega]
  rfl
theorem prs_get (l : List Pr) (j : Nat) (u : Value) (h : (prs l)[j]? = some u) : ∃ i, ∃ hi : i < l.length, (j = i * 2 ∧ u = .int .i64 l[i].1) ∨ (j = i * 2 + 1 ∧ u = .int .u64 (l[i].2 : Int)) := by
  have hj := (List.getElem?_eq_some_iff.1 h).1
  rw [prs_len] at hj
  refine ⟨j / 2, by omega, ?_⟩
  have := prs_at l (j / 2) (by omega)
  rcases (by omega : j = j / 2 * 2 ∨ j = j / 2 * 2 + 1) with e | e
  · refine .inl ⟨e, ?_⟩
    rw [e, this.1] at h
    exact (Option.some.inj h).symm
  · refine .inr ⟨e, ?_⟩
    rw [e, this.2] at h
    exact (Option.some.inj h).symm
theorem put_in {l : List Pr} {k : Int} {n i : Nat} (hi : i < l.length) (hs : Srt l) (h1 : ∀ j, (hj : j < l.length) → j < i → l[j].1 < k) (h2 : l[i].1 = k) : lput l k n = l.take i ++ (k, l[i].2 + n) :: l.drop (i + 1) := by
  induction l generalizing i with
  | nil => simp at hi
  | cons x l ih =>
    cases i with
    | zero =>
      simp only [List.getElem_cons_zero] at h2 ⊢
      rw [lput, if_neg (by omega), if_pos h2]
      rfl
    | succ i =>
      have h0 := h1 0 (by simp) (by omega)
      simp only [List.getElem_cons_zero] at h0
      rw [lput, if_pos h0, ih (by simpa using hi) (srt_cons.1 hs).2 (fun j hj hji => by have := h1 (j + 1) (by simpa using hj) (by omega); simpa using this) (by simpa using h2)]
      simp
theorem put_out {l : List Pr} {k : Int} {n i : Nat} (hi : i ≤ l.length) (h1 : ∀ j, (hj : j < l.length) → j < i → l[j].1 < k) (h2 : ∀ h : i < l.length, k < l[i].1) : lput l k n = l.take i ++ (k, n) :: l.drop i := by
  induction l generalizing i with
  | nil => obtain rfl : i = 0 := by simpa using hi
           simp [lput]
  | cons x l ih =>
    cases i with
    | zero =>
      have := h2 (by simp)
      simp only [List.getElem_cons_zero] at this
      rw [lput, if_neg (by omega), if_neg (by omega)]
      rfl
    | succ i =>
      have h0 := h1 0 (by simp) (by omega)
      simp only [List.getElem_cons_zero] at h0
      rw [lput, if_pos h0, ih (by simpa using hi) (fun j hj hji => by have := h1 (j + 1) (by simpa using hj) (by omega); simpa using this) (fun h => by have := h2 (by simpa using h); simpa using this)]
      simp
theorem bel_take {l : List Pr} {k : Int} {i : Nat} (h1 : ∀ j, (hj : j < l.length) → j < i → l[j].1 < k) (h2 : ∀ j, (hj : j < l.length) → i ≤ j → k ≤ l[j].1) : ltot (l.take i) = bel l k := by
  induction l generalizing i with
  | nil => simp [ltot, bel]
  | cons x l ih =>
    cases i with
    | zero =>
      rw [bel_zero fun y hy => ?_]
      · rfl
      · obtain ⟨j, hj, rfl⟩ := List.mem_iff_getElem.1 hy
        exact h2 j hj (by omega)
    | succ i =>
      have h0 := h1 0 (by simp) (by omega)
      simp only [List.getElem_cons_zero] at h0
      rw [List.take_succ_cons, ltot, bel, if_pos h0, ih (fun j hj hji => by have := h1 (j + 1) (by simpa using hj) (by omega); simpa using this) (fun j hj hji => by have := h2 (j + 1) (by simpa using hj) (by omega); simpa using this)]
theorem srt_lt {l : List Pr} (hs : Srt l) {i j : Nat} (hi : i < l.length) (hj : j < l.length) (h : i < j) : l[i].1 < l[j].1 := List.pairwise_iff_getElem.1 hs i j hi hj h
theorem srt_le {l : List Pr} (hs : Srt l) {i j : Nat} (hi : i < l.length) (hj : j < l.length) (h : i ≤ j) : l[i].1 ≤ l[j].1 := by
  rcases (by omega : i < j ∨ i = j) with h | rfl
  · exact Int.le_of_lt (srt_lt hs hi hj h)
  · exact Int.le_refl _
theorem put_last {l : List Pr} {k : Int} {n : Nat} (h : ∀ x ∈ l, x.1 < k) : lput l k n = l ++ [(k, n)] := by
  rw [put_out (i := l.length) (Nat.le_refl _) (fun j hj _ => h _ (List.getElem_mem hj)) (fun h => by omega)]
  simp
theorem put_same {l : List Pr} {k : Int} {m n : Nat} (h : ∀ x ∈ l, x.1 < k) : lput (l ++ [(k, m)]) k n = l ++ [(k, m + n)] := by
  induction l with
  | nil => rw [List.nil_append, lput, if_neg (by simp), if_pos rfl]; rfl
  | cons x l ih =>
    rw [List.cons_append, lput, if_pos (h x List.mem_cons_self), ih fun y hy => h y (List.mem_cons_of_mem _ hy)]
    rfl
def many : List Pr → Int → Nat
  | [], _ => 0
  | x :: r, k => (if x.1 = k then x.2 else 0) + many r k
theorem many_app (a b : List Pr) (k : Int) : many (a ++ b) k = many a k + many b k := by
  induction a with
  | nil => simp [many]
  | cons x a ih => rw [List.cons_append, many, many, ih]; omega
theorem many_perm {a b : List Pr} (h : a.Perm b) (k : Int) : many a k = many b k := by
  induction h with
  | nil => rfl
  | cons x _ ih => rw [many, many, ih]
  | swap x y l => rw [many, many, many, many]; omega
  | trans _ _ h1 h2 => rw [h1, h2]
theorem cnt_puts (m : List Pr) : ∀ (l : List Pr) (j : Int), Srt l → cnt (lputs l m) j = cnt l j + many m j := by
  induction m with
  | nil => intro l j _; simp [lputs, many]
  | cons x m ih =>
    intro l j hl
    rw [show lputs l (x :: m) = lputs (lput l x.1 x.2) m from rfl, ih _ _ (put_srt hl), cnt_put _ _ _ hl, many]
    by_cases e : x.1 = j
    · rw [if_pos e, if_pos e.symm]; omega
    · rw [if_neg e, if_neg fun h => e h.symm]; omega
theorem puts_perm {a b : List Pr} (h : a.Perm b) (hp : Pos a) : lputs [] a = lputs [] b := by
  have hq : Pos b := fun x hx => hp x (h.mem_iff.2 hx)
  exact ext_cnt (putAll_srt srt_nil a) (putAll_srt srt_nil b) (putAll_pos pos_nil hp) (putAll_pos pos_nil hq) fun k => by
    rw [cnt_puts a [] k srt_nil, cnt_puts b [] k srt_nil, many_perm h k]
end Go.Proofs.YtaemgflhgdlmiaaGreat

namespace Go.Proofs.YtaemgflhgdlmiaaGreat
theorem bel_put : ∀ (l : List Pr) (k : Int) (n : Nat) (j : Int), bel (lput l k n) j = bel l j + if k < j then n else 0
  | [], k, n, j => by simp [lput, bel]
  | y :: r, k, n, j => by
    have ih := bel_put r k n j
    rw [lput]
    split
    · rw [bel, ih, bel]; omega
    · split
      · rename_i h1 h2
        subst h2
        rw [bel, bel]; simp only
        by_cases e : y.1 < j
        · simp only [if_pos e]; omega
        · simp only [if_neg e]; omega
      · rw [bel]; simp only; omega
theorem bel_puts : ∀ (m l : List Pr) (j : Int), bel (lputs l m) j = bel l j + bel m j
  | [], l, j => rfl
  | x :: m, l, j => by
    rw [show lputs l (x :: m) = lputs (lput l x.1 x.2) m from rfl, bel_puts m, bel_put, bel]; omega
theorem bel_above (l : List Pr) {p q : Int} (h : p < q) : bel l q = upt l p + bel (above l p) q := by
  unfold above
  induction l with
  | nil => rfl
  | cons x r ih =>
    rw [List.filter_cons, upt, bel]
    by_cases e : p < x.1
    · rw [if_pos (c := decide (p < x.1) = true) (by simpa using e), bel, if_neg (show ¬ x.1 ≤ p by omega)]; omega
    · rw [if_neg (c := decide (p < x.1) = true) (by simpa using e), if_pos (show x.1 < q by omega), if_pos (show x.1 ≤ p by omega)]; omega
theorem cutA_at {l : List Pr} {m : Nat} {q : Int} (hs : Srt l) (hq : cnt l q ≠ 0) (h : (above l q).length + 1 = m) : cutA l m = bel l q := by
  obtain ⟨z, hz, ez⟩ := cnt_in hq
  obtain ⟨t, u, e⟩ := List.append_of_mem hz
  subst ez
  subst e
  rw [above_parts hs] at h
  have h1 := List.pairwise_append.1 hs
  have h2 := srt_cons.1 h1.2.1
  have hl : (t ++ z :: u).length - m = t.length := by rw [List.length_append, List.length_cons]; omega
  unfold cutA
  rw [hl]
  refine bel_take (fun j hj hji => ?_) fun j hj hji => ?_
  · have e : (t ++ z :: u)[j] = t[j] := List.getElem_append_left hji
    rw [e]
    exact h1.2.2 _ (List.getElem_mem hji) z List.mem_cons_self
  · have hmem : (t ++ z :: u)[j] ∈ z :: u := by
      rw [List.getElem_append_right hji]
      exact List.getElem_mem _
    rcases List.mem_cons.1 hmem with e | e
    · rw [e]; omega
    · have := h2.1 _ e; omega
def hk (l : List Pr) : Int := match l with
  | [] => 0
  | x :: _ => x.1
theorem cut_low {a u : List Pr} {m : Nat} {p q : Int} (ha : Srt a) (hu : Srt u) (hin : ∀ x ∈ a, ∃ y ∈ u, y.1 = x.1) (hq : (above u q).length + 1 = m) (h1 : cnt a p ≠ 0) (h2 : (above a p).length + 1 = m) : p ≤ q := by
  rcases (by omega : p ≤ q ∨ q < p) with h | h
  · exact h
  · obtain ⟨z, hz, ez⟩ := cnt_in h1
    have hs2 : Srt (z :: above a p) := srt_cons.2 ⟨fun y hy => by have := (above_mem.1 hy).2; omega, above_srt ha⟩
    have := len_sub (u := above u q) hs2 (above_srt hu) fun x hx => by
      rcases List.mem_cons.1 hx with rfl | hx
      · obtain ⟨y, hy, e⟩ := hin x hz
        exact ⟨y, above_mem.2 ⟨hy, by omega⟩, e⟩
      · obtain ⟨hx1, hx2⟩ := above_mem.1 hx
        obtain ⟨y, hy, e⟩ := hin x hx1
        exact ⟨y, above_mem.2 ⟨hy, by omega⟩, e⟩
    rw [List.length_cons] at this
    omega
theorem fold_part {a u : List Pr} {m : Nat} {q k : Int} (ha : Srt a) (pa : Pos a) (hu : Srt u) (hm : 1 ≤ m) (hin : ∀ x ∈ a, ∃ y ∈ u, y.1 = x.1) (hq : (above u q).length + 1 = m) (hk0 : cutA a m ≠ 0 → k = hk (cutN a m)) :
    bel a q = bel (cutN a m) q + if k = q then cutA a m else 0 := by
  by_cases h : a.length ≤ m
  · rw [cut_none h, cutA_none h, ite_self]; omega
  · obtain ⟨p, h1, h2⟩ := cut_key ha pa hm (by omega)
    have hpq := cut_low ha hu hin hq h1 h2
    have e := cut_at ha h1 h2
    have eA := cutA_at ha h1 h2
    have hk1 : cutA a m ≠ 0 → k = p := fun h => by rw [hk0 h, e]; rfl
    rcases (by omega : p = q ∨ p < q) with rfl | hlt
    · have e0 : bel (cutN a m) p = 0 := by
        rw [e]
        refine bel_zero fun x hx => ?_
        rcases List.mem_cons.1 hx with rfl | hx
        · exact Int.le_refl _
        · have := (above_mem.1 hx).2; omega
      rw [e0, ← eA]
      by_cases h0 : cutA a m = 0
      · rw [h0, ite_self]
      · rw [if_pos (hk1 h0)]; omega
    · have e0 : bel (cutN a m) q = upt a p + bel (above a p) q := by rw [e, bel]; simp only; rw [if_pos hlt]
      rw [e0, ← bel_above a hlt]
      by_cases h0 : cutA a m = 0
      · rw [h0, ite_self]; omega
      · rw [if_neg (by have := hk1 h0; omega)]; omega
theorem fold_step {a b : List Pr} {m : Nat} {k j : Int} (ha : Srt a) (pa : Pos a) (hb : Srt b) (pb : Pos b) (hm : 1 ≤ m) (ka : cutA a m ≠ 0 → k = hk (cutN a m)) (kb : cutA b m ≠ 0 → j = hk (cutN b m)) :
    cutA (lputs a b) m = cutA (lputs (cutN a m) (cutN b m)) m + (if k = hk (cutN (lputs a b) m) then cutA a m else 0) + (if j = hk (cutN (lputs a b) m) then cutA b m else 0) := by
  have hu := putAll_srt ha b
  have pu := putAll_pos pa pb
  have ina : ∀ x ∈ a, ∃ y ∈ lputs a b, y.1 = x.1 := fun x hx => cnt_in (by rw [cnt_putAll _ _ _ ha hb]; have := cnt_ne ha pa hx; omega)
  have inb : ∀ x ∈ b, ∃ y ∈ lputs a b, y.1 = x.1 := fun x hx => cnt_in (by rw [cnt_putAll _ _ _ ha hb]; have := cnt_ne hb pb hx; omega)
  by_cases h : (lputs a b).length < m
  · have h1 := len_sub ha hu ina
    have h2 := len_sub hb hu inb
    rw [cut_none (l := a) (by omega), cut_none (l := b) (by omega), cutA_none (l := a) (by omega), cutA_none (l := b) (by omega), cutA_none (l := lputs a b) (by omega), ite_self, ite_self]
  · obtain ⟨q, hq, hl⟩ := cut_key hu pu hm (by omega)
    have fa := fold_part ha pa hu hm ina hl ka
    have fb := fold_part hb pb hu hm inb hl kb
    obtain ⟨a1, a2⟩ := cut_beside ha pa hu hm ina hl
    obtain ⟨b1, b2⟩ := cut_beside hb pb hu hm inb hl
    have sa := cut_srt ha pa hm
    have sb := cut_srt hb pb hm
    have hv := putAll_srt sa (cutN b m)
    have pv := putAll_pos (cut_pos ha pa hm) (cut_pos hb pb hm)
    have hqv : cnt (lputs (cutN a m) (cutN b m)) q ≠ 0 := by
      rw [cnt_putAll _ _ _ ha hb] at hq
      rw [cnt_putAll _ _ _ sa sb]
      rcases (by omega : cnt a q ≠ 0 ∨ cnt b q ≠ 0) with h | h
      · have := a2 h; omega
      · have := b2 h; omega
    have ea : above (lputs (cutN a m) (cutN b m)) q = above (lputs a b) q := ext_cnt (above_srt hv) (above_srt hu) (above_pos pv) (above_pos pu) fun j => by
      rw [above_cnt, above_cnt]
      by_cases hj : q < j
      · rw [if_pos hj, if_pos hj, cnt_putAll _ _ _ sa sb, cnt_putAll _ _ _ ha hb, a1 j hj, b1 j hj]
      · rw [if_neg hj, if_neg hj]
    have eh : hk (cutN (lputs a b) m) = q := by rw [cut_at hu hq hl]; rfl
    rw [eh, cutA_at hu hq hl, cutA_at hv hqv (by rw [ea]; exact hl), bel_puts, bel_puts, fa, fb]
    omega
theorem cut_one (x : Pr) {m : Nat} (hm : 1 ≤ m) : cutN [x] m = [x] ∧ cutA [x] m = 0 := ⟨cut_none hm, cutA_none hm⟩
theorem srt_one (x : Pr) : Srt [x] := List.pairwise_singleton _ _
theorem fold_add {a : List Pr} {m n : Nat} {k j : Int} (ha : Srt a) (pa : Pos a) (hn : 0 < n) (hm : 1 ≤ m) (ka : cutA a m ≠ 0 → j = hk (cutN a m)) :
    cutN (lput (cutN a m) k n) m = cutN (lput a k n) m ∧ cutA (lput a k n) m = cutA (lput (cutN a m) k n) m + (if j = hk (cutN (lput a k n) m) then cutA a m else 0) := by
  have pb : Pos [(k, n)] := fun x hx => by rw [List.mem_singleton.1 hx]; exact hn
  obtain ⟨e1, e2⟩ := cut_one (k, n) hm
  have h1 := cut_merge ha pa (srt_one (k, n)) pb hm
  have h2 := fold_step (j := 0) ha pa (srt_one (k, n)) pb hm ka fun h => absurd e2 h
  rw [e1] at h1 h2
  rw [e2, ite_self] at h2
  exact ⟨h1, h2⟩
theorem hk_key {l : List Pr} (hp : Pos l) : keyW l 1 = hk l := by
  cases l with
  | nil => rfl
  | cons x r =>
    have := (pos_cons.1 hp).1
    rw [keyW, if_pos (by omega)]
    rfl
theorem hk_above {l : List Pr} {m : Nat} (hs : Srt l) (hp : Pos l) (hm : 1 ≤ m) (h : cutA l m ≠ 0) : (cutN l m).length = m ∧ (∃ x ∈ l, x.1 < hk (cutN l m)) ∧ ∃ x t, cutN l m = x :: t ∧ x.1 = hk (cutN l m) ∧ cutA l m < x.2 := by
  have hlt : m < l.length := by
    rcases (by omega : l.length ≤ m ∨ m < l.length) with h' | h'
    · exact absurd (cutA_none h') h
    · exact h'
  obtain ⟨q, hq, hl⟩ := cut_key hs hp hm (by omega)
  have e := cut_at hs hq hl
  have eA := cutA_at hs hq hl
  have eh : hk (cutN l m) = q := by rw [e]; rfl
  rw [eh]
  refine ⟨by rw [e, List.length_cons]; exact hl, ?_, (q, upt l q), above l q, e, rfl, by rw [eA, upt_bel l hs]; simp only; omega⟩
  rcases Classical.em (∃ x ∈ l, x.1 < q) with h' | h'
  · exact h'
  · rw [eA] at h
    exact absurd (bel_zero fun x hx => by
      rcases (by omega : q ≤ x.1 ∨ x.1 < q) with h3 | h3
      · exact h3
      · exact absurd ⟨x, hx, h3⟩ h') h
end Go.Proofs.YtaemgflhgdlmiaaGreat
