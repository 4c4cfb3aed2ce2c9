/- DnMath, DnPairs, DnRef, DnRefPut, SpMath, SpList, SpFind, SpRef, WkMath in one text. -/
import Derived.Test.YthfcfmnaiopogaaGreatBase
import Derived.Test.YthfcfmnaiopogaaGreatBytes
import Derived.StillTailTactics
import Derived.BigRegion
import Derived.Deep.RegionLaw
import Derived.Deep.RegionHeld3
import Derived.Deep.CutBlock
import Derived.Deep.DeepCutAuto
import Derived.Deep.CutRange

/- Lists of keys and counts, rising by keys. -/
namespace Go.Proofs.YthfcfmnaiopogaaGreat

abbrev Pr := Int × Nat
/-- a key's count -/
def cnt : List Pr → Int → Nat
  | [], _ => 0
  | x :: r, j => if x.1 = j then x.2 else cnt r j
def ltot : List Pr → Nat
  | [] => 0
  | x :: r => x.2 + ltot r
def lput : List Pr → Int → Nat → List Pr
  | [], k, n => [(k, n)]
  | x :: r, k, n => if x.1 < k then x :: lput r k n else if x.1 = k then (k, x.2 + n) :: r else (k, n) :: x :: r
def lwout : List Pr → Int → List Pr
  | [], _ => []
  | x :: r, k => if x.1 = k then lwout r k else x :: lwout r k
def lputs (l m : List Pr) : List Pr := m.foldl (fun a x => lput a x.1 x.2) l
def Srt (l : List Pr) : Prop := l.Pairwise fun a b => a.1 < b.1
def Pos (l : List Pr) : Prop := ∀ x ∈ l, 0 < x.2

theorem srt_nil : Srt [] := List.Pairwise.nil
theorem srt_cons {x : Pr} {r : List Pr} : Srt (x :: r) ↔ (∀ y ∈ r, x.1 < y.1) ∧ Srt r := List.pairwise_cons
theorem pos_nil : Pos [] := fun _ h => by cases h
theorem pos_cons {x : Pr} {r : List Pr} : Pos (x :: r) ↔ 0 < x.2 ∧ Pos r := by simp [Pos]

theorem cnt_out : ∀ {l : List Pr} {k : Int}, (∀ x ∈ l, x.1 ≠ k) → cnt l k = 0
  | [], _, _ => rfl
  | x :: r, k, h => by
    rw [cnt, if_neg (h x List.mem_cons_self)]
    exact cnt_out fun y hy => h y (List.mem_cons_of_mem _ hy)
theorem cnt_in : ∀ {l : List Pr} {k : Int}, cnt l k ≠ 0 → ∃ x ∈ l, x.1 = k
  | [], _, h => absurd rfl h
  | x :: r, k, h => by
    rw [cnt] at h
    by_cases e : x.1 = k
    · exact ⟨x, List.mem_cons_self, e⟩
    · rw [if_neg e] at h
      obtain ⟨y, hy, e⟩ := cnt_in h
      exact ⟨y, List.mem_cons_of_mem _ hy, e⟩
theorem cnt_mem : ∀ {l : List Pr}, Srt l → ∀ {x : Pr}, x ∈ l → cnt l x.1 = x.2
  | y :: r, hs, x, hx => by
    rw [srt_cons] at hs
    rw [cnt]
    rcases List.mem_cons.1 hx with rfl | hx
    · rw [if_pos rfl]
    · have := hs.1 x hx
      rw [if_neg (by omega)]
      exact cnt_mem hs.2 hx
theorem cnt_ne {l : List Pr} (hs : Srt l) (hp : Pos l) {x : Pr} (hx : x ∈ l) : cnt l x.1 ≠ 0 := by
  rw [cnt_mem hs hx]
  have := hp x hx
  omega
theorem cnt_tot : ∀ (l : List Pr) (k : Int), cnt l k ≤ ltot l
  | [], _ => Nat.le_refl _
  | x :: r, k => by
    rw [cnt, ltot]
    have := cnt_tot r k
    split <;> omega

theorem put_mem : ∀ {l : List Pr} {k : Int} {n : Nat} {x : Pr}, x ∈ lput l k n → x.1 = k ∨ x ∈ l
  | [], k, n, x, h => by
    rw [lput] at h
    obtain rfl := List.mem_singleton.1 h
    exact .inl rfl
  | y :: r, k, n, x, h => by
    rw [lput] at h
    split at h
    · rcases List.mem_cons.1 h with rfl | h
      · exact .inr List.mem_cons_self
      · exact (put_mem h).imp id fun h => List.mem_cons_of_mem _ h
    · split at h
      · rcases List.mem_cons.1 h with rfl | h
        · exact .inl rfl
        · exact .inr (List.mem_cons_of_mem _ h)
      · rcases List.mem_cons.1 h with rfl | h
        · exact .inl rfl
        · exact .inr h
theorem put_srt : ∀ {l : List Pr} {k : Int} {n : Nat}, Srt l → Srt (lput l k n)
  | [], k, n, _ => by rw [lput]; exact List.pairwise_singleton _ _
  | y :: r, k, n, h => by
    have h' := srt_cons.1 h
    rw [lput]
    split
    · rename_i hy
      refine srt_cons.2 ⟨fun z hz => ?_, put_srt h'.2⟩
      rcases put_mem hz with e | hz
      · rw [e]; exact hy
      · exact h'.1 z hz
    · split
      · rename_i _ e
        exact srt_cons.2 ⟨fun z hz => by have := h'.1 z hz; simp only; omega, h'.2⟩
      · refine srt_cons.2 ⟨fun z hz => ?_, h⟩
        rcases List.mem_cons.1 hz with rfl | hz
        · simp only; omega
        · have := h'.1 z hz
          simp only; omega
theorem put_pos : ∀ {l : List Pr} {k : Int} {n : Nat}, Pos l → 0 < n → Pos (lput l k n)
  | [], k, n, _, hn => by rw [lput]; exact pos_cons.2 ⟨hn, pos_nil⟩
  | y :: r, k, n, h, hn => by
    have h' := pos_cons.1 h
    rw [lput]
    split
    · exact pos_cons.2 ⟨h'.1, put_pos h'.2 hn⟩
    · split
      · exact pos_cons.2 ⟨by have := h'.1; simp only; omega, h'.2⟩
      · exact pos_cons.2 ⟨hn, h⟩
theorem tot_put : ∀ (l : List Pr) (k : Int) (n : Nat), ltot (lput l k n) = ltot l + n
  | [], k, n => by simp [lput, ltot]
  | y :: r, k, n => by
    have ih := tot_put r k n
    rw [lput]
    split
    · rw [ltot, ih, ltot]; omega
    · split
      · rw [ltot, ltot]; simp only; omega
      · rw [ltot, ltot]; simp only; omega
theorem cnt_put : ∀ {l : List Pr} (k : Int) (n : Nat) (j : Int), Srt l → cnt (lput l k n) j = cnt l j + if j = k then n else 0
  | [], k, n, j, _ => by
    rw [lput, cnt, cnt]
    simp only
    by_cases e : k = j
    · rw [if_pos e, if_pos e.symm]; omega
    · rw [if_neg e, if_neg fun h => e h.symm]; rfl
  | y :: r, k, n, j, h => by
    have h' := srt_cons.1 h
    have ih := cnt_put k n j h'.2
    rw [lput]
    by_cases h1 : y.1 < k
    · rw [if_pos h1, cnt, cnt]
      by_cases e : y.1 = j
      · rw [if_pos e, if_pos e, if_neg (by omega)]; rfl
      · rw [if_neg e, if_neg e, ih]
    · rw [if_neg h1]
      by_cases h2 : y.1 = k
      · rw [if_pos h2, cnt, cnt]
        simp only
        by_cases e : k = j
        · rw [if_pos e, if_pos (by omega), if_pos e.symm]
        · rw [if_neg e, if_neg (by omega), if_neg (by omega)]; rfl
      · rw [if_neg h2, cnt]
        simp only
        by_cases e : k = j
        · rw [if_pos e, if_pos e.symm]
          have : cnt (y :: r) j = 0 := cnt_out fun z hz => by
            rcases List.mem_cons.1 hz with rfl | hz
            · omega
            · have := h'.1 z hz; omega
          omega
        · rw [if_neg e, if_neg fun h => e h.symm]; rfl
theorem put_ne (l : List Pr) (k : Int) (n : Nat) : lput l k n ≠ [] := by
  cases l with
  | nil => simp [lput]
  | cons y r =>
    rw [lput]
    split
    · simp
    · split <;> simp
theorem len_put : ∀ {l : List Pr} (k : Int) (n : Nat), Srt l → Pos l → (lput l k n).length = l.length + if cnt l k = 0 then 1 else 0
  | [], k, n, _, _ => rfl
  | y :: r, k, n, h, hp => by
    have h' := srt_cons.1 h
    have hp' := pos_cons.1 hp
    have ih := len_put k n h'.2 hp'.2
    rw [lput]
    by_cases h1 : y.1 < k
    · have hc : cnt (y :: r) k = cnt r k := by rw [cnt, if_neg (by omega)]
      rw [if_pos h1, hc, List.length_cons, List.length_cons, ih]; omega
    · rw [if_neg h1]
      by_cases h2 : y.1 = k
      · have hc : cnt (y :: r) k = y.2 := by rw [cnt, if_pos h2]
        rw [if_pos h2, hc, if_neg (by have := hp'.1; omega)]; rfl
      · rw [if_neg h2]
        have : cnt (y :: r) k = 0 := cnt_out fun z hz => by
          rcases List.mem_cons.1 hz with rfl | hz
          · omega
          · have := h'.1 z hz; omega
        rw [this]; rfl

/-- two lists that count every key alike are the same -/
theorem ext_cnt : ∀ {l m : List Pr}, Srt l → Srt m → Pos l → Pos m → (∀ k, cnt l k = cnt m k) → l = m
  | [], [], _, _, _, _, _ => rfl
  | [], y :: s, _, _, _, hq, h => by
    have := h y.1
    rw [cnt, cnt, if_pos rfl] at this
    have := (pos_cons.1 hq).1
    omega
  | x :: r, [], _, _, hp, _, h => by
    have := h x.1
    rw [cnt, cnt, if_pos rfl] at this
    have := (pos_cons.1 hp).1
    omega
  | x :: r, y :: s, hs, ht, hp, hq, h => by
    have hs' := srt_cons.1 hs
    have ht' := srt_cons.1 ht
    have hp' := pos_cons.1 hp
    have hq' := pos_cons.1 hq
    have e : x.1 = y.1 := by
      have h1 := h x.1
      have h2 := h y.1
      rw [cnt, if_pos rfl] at h1
      have h1' : cnt (y :: s) x.1 ≠ 0 := by have := hp'.1; omega
      have h2' : cnt (x :: r) y.1 ≠ 0 := by rw [h2, cnt, if_pos rfl]; have := hq'.1; omega
      obtain ⟨z, hz, ez⟩ := cnt_in h1'
      obtain ⟨u, hu, eu⟩ := cnt_in h2'
      rcases List.mem_cons.1 hz with rfl | hz
      · exact ez.symm
      · rcases List.mem_cons.1 hu with rfl | hu
        · exact eu
        · have := ht'.1 z hz
          have := hs'.1 u hu
          omega
    have e2 : x.2 = y.2 := by
      have h1 := h x.1
      rw [cnt, if_pos rfl, cnt, if_pos e.symm] at h1
      exact h1
    obtain rfl : x = y := Prod.ext e e2
    congr 1
    refine ext_cnt hs'.2 ht'.2 hp'.2 hq'.2 fun k => ?_
    by_cases ek : x.1 = k
    · rw [cnt_out fun z hz => by have := hs'.1 z hz; omega, cnt_out fun z hz => by have := ht'.1 z hz; omega]
    · have := h k
      rwa [cnt, if_neg ek, cnt, if_neg ek] at this

theorem wout_mem : ∀ {l : List Pr} {k : Int} {x : Pr}, x ∈ lwout l k ↔ x ∈ l ∧ x.1 ≠ k
  | [], k, x => by simp [lwout]
  | y :: r, k, x => by
    rw [lwout]
    split
    · rename_i e
      rw [wout_mem, List.mem_cons]
      refine ⟨fun h => ⟨.inr h.1, h.2⟩, fun h => ⟨?_, h.2⟩⟩
      rcases h.1 with rfl | h1
      · exact absurd e h.2
      · exact h1
    · rename_i e
      rw [List.mem_cons, wout_mem, List.mem_cons]
      refine ⟨fun h => ?_, fun h => ?_⟩
      · rcases h with rfl | h
        · exact ⟨.inl rfl, e⟩
        · exact ⟨.inr h.1, h.2⟩
      · rcases h.1 with rfl | h1
        · exact .inl rfl
        · exact .inr ⟨h1, h.2⟩
theorem wout_srt : ∀ {l : List Pr} {k : Int}, Srt l → Srt (lwout l k)
  | [], _, _ => srt_nil
  | y :: r, k, h => by
    have h' := srt_cons.1 h
    rw [lwout]
    split
    · exact wout_srt h'.2
    · exact srt_cons.2 ⟨fun z hz => h'.1 z (wout_mem.1 hz).1, wout_srt h'.2⟩
theorem wout_pos {l : List Pr} {k : Int} (h : Pos l) : Pos (lwout l k) := fun x hx => h x (wout_mem.1 hx).1
theorem cnt_wout : ∀ (l : List Pr) (k j : Int), cnt (lwout l k) j = if j = k then 0 else cnt l j
  | [], k, j => by rw [lwout, cnt]; split <;> rfl
  | y :: r, k, j => by
    have ih := cnt_wout r k j
    rw [lwout]
    by_cases e : y.1 = k
    · rw [if_pos e, ih, cnt]
      by_cases ej : j = k
      · rw [if_pos ej, if_pos ej]
      · rw [if_neg ej, if_neg ej, if_neg (by omega)]
    · rw [if_neg e, cnt, cnt, ih]
      by_cases ej : j = k
      · rw [if_pos ej, if_neg (by omega), if_pos ej]
      · rw [if_neg ej, if_neg ej]
theorem wout_none : ∀ {l : List Pr} {k : Int}, (∀ x ∈ l, x.1 ≠ k) → lwout l k = l
  | [], _, _ => rfl
  | y :: r, k, h => by
    rw [lwout, if_neg (h y List.mem_cons_self), wout_none fun z hz => h z (List.mem_cons_of_mem _ hz)]
theorem wout_sums : ∀ {l : List Pr} (k : Int), Srt l → Pos l → ltot (lwout l k) + cnt l k = ltot l ∧ (lwout l k).length + (if cnt l k = 0 then 0 else 1) = l.length
  | [], _, _, _ => ⟨rfl, rfl⟩
  | y :: r, k, h, hp => by
    have h' := srt_cons.1 h
    have hp' := pos_cons.1 hp
    have ih := wout_sums k h'.2 hp'.2
    rw [lwout, cnt, ltot, List.length_cons]
    by_cases e : y.1 = k
    · rw [if_pos e, if_pos e, wout_none fun z hz => by have := h'.1 z hz; omega, if_neg (by have := hp'.1; omega)]
      exact ⟨by omega, rfl⟩
    · rw [if_neg e, if_neg e, ltot, List.length_cons]
      exact ⟨by omega, by omega⟩
theorem wout_zero {l : List Pr} {k : Int} (h : Srt l) (hp : Pos l) (h0 : cnt l k = 0) : lwout l k = l :=
  wout_none fun _ hx e => absurd h0 (e ▸ cnt_ne h hp hx)

theorem putAll_snoc (l m : List Pr) (x : Pr) : lputs l (m ++ [x]) = lput (lputs l m) x.1 x.2 := by simp [lputs]
theorem putAll_nil (l : List Pr) : lputs l [] = l := rfl
theorem putAll_srt {l : List Pr} (h : Srt l) : ∀ (m : List Pr), Srt (lputs l m) := by
  intro m
  induction m generalizing l with
  | nil => exact h
  | cons x m ih => exact ih (put_srt h)
theorem putAll_pos {l : List Pr} (h : Pos l) : ∀ {m : List Pr}, Pos m → Pos (lputs l m) := by
  intro m
  induction m generalizing l with
  | nil => exact fun _ => h
  | cons x m ih => exact fun hm => ih (put_pos h (pos_cons.1 hm).1) (pos_cons.1 hm).2
theorem tot_putAll : ∀ (m l : List Pr), ltot (lputs l m) = ltot l + ltot m
  | [], l => rfl
  | x :: m, l => by
    rw [show lputs l (x :: m) = lputs (lput l x.1 x.2) m from rfl, tot_putAll m, tot_put, ltot]; omega
theorem cnt_putAll : ∀ (m l : List Pr) (j : Int), Srt l → Srt m → cnt (lputs l m) j = cnt l j + cnt m j
  | [], l, j, _, _ => rfl
  | x :: m, l, j, h, hm => by
    have hm' := srt_cons.1 hm
    rw [show lputs l (x :: m) = lputs (lput l x.1 x.2) m from rfl, cnt_putAll m _ j (put_srt h) hm'.2, cnt_put _ _ _ h, cnt]
    by_cases e : x.1 = j
    · rw [if_pos e.symm, if_pos e, cnt_out (l := m) fun z hz => by have := hm'.1 z hz; omega]; omega
    · rw [if_neg fun h => e h.symm, if_neg e]; omega
theorem putAll_mem : ∀ (m l : List Pr) (x : Pr), x ∈ lputs l m → (∃ y ∈ m, y.1 = x.1) ∨ x ∈ l
  | [], l, x, h => .inr h
  | y :: m, l, x, h => by
    rcases putAll_mem m _ x h with ⟨z, hz, e⟩ | h
    · exact .inl ⟨z, List.mem_cons_of_mem _ hz, e⟩
    · rcases put_mem h with e | h
      · exact .inl ⟨y, List.mem_cons_self, e.symm⟩
      · exact .inr h
theorem putAll_ne {l m : List Pr} (h : l ≠ [] ∨ m ≠ []) : lputs l m ≠ [] := by
  induction m generalizing l with
  | nil => exact h.elim id fun h => absurd rfl h
  | cons x m ih => exact ih (.inl (put_ne _ _ _))

/-- the keys from a to b, and both are there -/
structure Ends (l : List Pr) (a b : Int) : Prop where
  fst : cnt l a ≠ 0
  lst : cnt l b ≠ 0
  all : ∀ x ∈ l, a ≤ x.1 ∧ x.1 ≤ b
theorem Ends.le {l : List Pr} {a b : Int} (h : Ends l a b) : a ≤ b := by
  obtain ⟨x, hx, e⟩ := cnt_in h.fst
  have := h.all x hx
  omega
theorem Ends.ne {l : List Pr} {a b : Int} (h : Ends l a b) : l ≠ [] := by
  rintro rfl
  exact h.fst rfl
theorem Ends.put {l : List Pr} {a b : Int} (h : Ends l a b) (hs : Srt l) (k : Int) {n : Nat} (hn : 0 < n) : Ends (lput l k n) (min a k) (max b k) := by
  have h1 := h.fst
  have h2 := h.lst
  have hle := h.le
  refine ⟨?_, ?_, fun x hx => ?_⟩
  · rw [cnt_put _ _ _ hs]
    by_cases e : min a k = k
    · rw [if_pos e]; omega
    · rw [show min a k = a by omega]; omega
  · rw [cnt_put _ _ _ hs]
    by_cases e : max b k = k
    · rw [if_pos e]; omega
    · rw [show max b k = b by omega]; omega
  · rcases put_mem hx with e | hx
    · omega
    · have := h.all x hx
      omega
theorem Ends.one (k : Int) {n : Nat} (hn : 0 < n) : Ends (lput [] k n) k k := by
  refine ⟨?_, ?_, fun x hx => ?_⟩
  · rw [lput, cnt, if_pos rfl]; simp only; omega
  · rw [lput, cnt, if_pos rfl]; simp only; omega
  · rcases put_mem hx with e | hx
    · omega
    · cases hx
theorem Ends.putAll {l m : List Pr} {a b c d : Int} (h : Ends l a b) (k : Ends m c d) (hs : Srt l) (ht : Srt m) : Ends (lputs l m) (min a c) (max b d) := by
  have h1 := h.fst
  have h2 := h.lst
  have k1 := k.fst
  have k2 := k.lst
  refine ⟨?_, ?_, fun x hx => ?_⟩
  · rw [cnt_putAll _ _ _ hs ht]
    rcases (by omega : min a c = a ∨ min a c = c) with e | e <;> rw [e] <;> omega
  · rw [cnt_putAll _ _ _ hs ht]
    rcases (by omega : max b d = b ∨ max b d = d) with e | e <;> rw [e] <;> omega
  · rcases putAll_mem _ _ _ hx with ⟨y, hy, e⟩ | hx
    · have := k.all y hy
      omega
    · have := h.all x hx
      omega
theorem putAll_of_nil : ∀ {m : List Pr}, Srt m → Pos m → lputs [] m = m := by
  intro m hs hp
  refine ext_cnt (putAll_srt srt_nil m) hs (putAll_pos pos_nil hp) hp fun k => ?_
  rw [cnt_putAll _ _ _ srt_nil hs, cnt, Nat.zero_add]
theorem ends_nil_or : ∀ {l : List Pr}, Srt l → Pos l → l ≠ [] → ∃ a b, Ends l a b := by
  intro l
  induction l with
  | nil => exact fun _ _ h => absurd rfl h
  | cons x r ih =>
    intro hs hp _
    have hs' := srt_cons.1 hs
    have hp' := pos_cons.1 hp
    have hx : cnt (x :: r) x.1 ≠ 0 := by rw [cnt, if_pos rfl]; omega
    by_cases hr : r = []
    · subst hr
      exact ⟨x.1, x.1, hx, hx, fun y hy => by obtain rfl := List.mem_singleton.1 hy; omega⟩
    · obtain ⟨a, b, h⟩ := ih hs'.2 hp'.2 hr
      have hb : x.1 < b := by
        obtain ⟨y, hy, e⟩ := cnt_in h.lst
        have := hs'.1 y hy
        omega
      refine ⟨x.1, b, hx, by rw [cnt, if_neg (by omega)]; exact h.lst, fun y hy => ?_⟩
      rcases List.mem_cons.1 hy with rfl | hy
      · omega
      · have := hs'.1 y hy
        have := h.all y hy
        omega
theorem ends_at : ∀ {l : List Pr} {a b : Int}, Srt l → Ends l a b → ∃ (h : 0 < l.length), (l[0]'h).1 = a ∧ (l[l.length - 1]'(by omega)).1 = b := by
  intro l a b hs h
  have hl : 0 < l.length := List.length_pos_iff.2 h.ne
  refine ⟨hl, ?_, ?_⟩
  · obtain ⟨x, hx, e⟩ := cnt_in h.fst
    obtain ⟨i, hi, rfl⟩ := List.mem_iff_getElem.1 hx
    have h1 := (h.all _ (List.getElem_mem hl)).1
    by_cases h0 : i = 0
    · subst h0; exact e
    · have := List.pairwise_iff_getElem.1 hs 0 i hl hi (by omega)
      omega
  · obtain ⟨x, hx, e⟩ := cnt_in h.lst
    obtain ⟨i, hi, rfl⟩ := List.mem_iff_getElem.1 hx
    have h1 := (h.all _ (List.getElem_mem (show l.length - 1 < l.length by omega))).2
    by_cases h0 : i = l.length - 1
    · subst h0; exact e
    · have := List.pairwise_iff_getElem.1 hs i (l.length - 1) hi (by omega) (by omega)
      omega
/-- no more keys than lie in a window -/
theorem len_le : ∀ {l : List Pr} {a b : Int}, Srt l → (∀ x ∈ l, a ≤ x.1 ∧ x.1 ≤ b) → a ≤ b + 1 → (l.length : Int) ≤ b - a + 1
  | [], a, b, _, _, h => by simp; omega
  | x :: r, a, b, hs, ha, h => by
    have hs' := srt_cons.1 hs
    have hx := ha x List.mem_cons_self
    have := len_le (a := x.1 + 1) (b := b) hs'.2 (fun y hy => by have := hs'.1 y hy; have := ha y (List.mem_cons_of_mem _ hy); omega) (by omega)
    rw [List.length_cons]
    omega

/-- the pairs whose keys lie below -/
def low (l : List Pr) (k : Int) : List Pr := l.filter fun x => x.1 < k
theorem low_none {l : List Pr} {k : Int} (h : ∀ x ∈ l, k ≤ x.1) : low l k = [] := by
  unfold low
  rw [List.filter_eq_nil_iff]
  intro x hx
  have := h x hx
  simp; omega
theorem low_all {l : List Pr} {k : Int} (h : ∀ x ∈ l, x.1 < k) : low l k = l := by
  unfold low
  rw [List.filter_eq_self]
  intro x hx
  have := h x hx
  simpa using this
theorem low_zero : ∀ {l : List Pr} {k : Int}, Srt l → Pos l → cnt l k = 0 → low l (k + 1) = low l k := by
  intro l k hs hp h
  unfold low
  refine List.filter_congr fun x hx => ?_
  have : x.1 ≠ k := fun e => cnt_ne hs hp hx (e ▸ h)
  simp only [decide_eq_decide]
  omega
theorem low_some : ∀ {l : List Pr} {k : Int}, Srt l → cnt l k ≠ 0 → ∃ r, l = low l k ++ (k, cnt l k) :: r ∧ low l (k + 1) = low l k ++ [(k, cnt l k)]
  | [], _, _, h => absurd rfl h
  | x :: r, k, hs, h => by
    have hs' := srt_cons.1 hs
    by_cases e : x.1 = k
    · have h1 : low (x :: r) k = [] := low_none fun y hy => by
        rcases List.mem_cons.1 hy with rfl | hy
        · omega
        · have := hs'.1 y hy; omega
      have h2 : low r (k + 1) = [] := low_none fun y hy => by have := hs'.1 y hy; omega
      have h3 : cnt (x :: r) k = x.2 := by rw [cnt, if_pos e]
      rw [h1, h3, ← e]
      refine ⟨r, rfl, ?_⟩
      unfold low at h2 ⊢
      rw [e, List.filter_cons, if_pos (by simp; omega), h2, ← e]
      rfl
    · have h3 : cnt (x :: r) k = cnt r k := by rw [cnt, if_neg e]
      rw [h3] at h ⊢
      obtain ⟨s, e1, e2⟩ := low_some hs'.2 h
      have hlt : x.1 < k := by
        obtain ⟨y, hy, ey⟩ := cnt_in h
        have := hs'.1 y hy
        omega
      have h1 : low (x :: r) k = x :: low r k := by unfold low; rw [List.filter_cons, if_pos (by simpa using hlt)]
      have h2 : low (x :: r) (k + 1) = x :: low r (k + 1) := by unfold low; rw [List.filter_cons, if_pos (by simp; omega)]
      refine ⟨s, ?_, ?_⟩
      · rw [h1, List.cons_append, ← e1]
      · rw [h2, e2, h1]; rfl
theorem low_mem {l : List Pr} {k : Int} {x : Pr} (h : x ∈ low l k) : x ∈ l ∧ x.1 < k := by
  unfold low at h
  simpa using h

/-- what a store may hold -/
structure Ok (l : List Pr) : Prop where
  srt : Srt l
  pos : Pos l
  key : ∀ x ∈ l, -1048576 ≤ x.1 ∧ x.1 ≤ 1048576
  win : ∀ x ∈ l, ∀ y ∈ l, y.1 - x.1 < 8192
  tot : ltot l ≤ 4611686018427387904
theorem Ok.nil : Ok [] := ⟨srt_nil, pos_nil, (fun _ h => (by cases h)), (fun _ h => (by cases h)), by decide⟩
theorem Ok.ends {l : List Pr} (h : Ok l) {a b : Int} (e : Ends l a b) : -1048576 ≤ a ∧ b ≤ 1048576 ∧ a ≤ b ∧ b - a < 8192 := by
  obtain ⟨x, hx, rfl⟩ := cnt_in e.fst
  obtain ⟨y, hy, rfl⟩ := cnt_in e.lst
  exact ⟨(h.key x hx).1, (h.key y hy).2, e.le, h.win x hx y hy⟩
theorem Ok.of {l : List Pr} {a b : Int} (hs : Srt l) (hp : Pos l) (ha : ∀ x ∈ l, a ≤ x.1 ∧ x.1 ≤ b) (h1 : -1048576 ≤ a) (h2 : b ≤ 1048576) (h3 : b - a < 8192) (ht : ltot l ≤ 4611686018427387904) : Ok l :=
  ⟨hs, hp, fun x hx => by have := ha x hx; omega, fun x hx y hy => by have := ha x hx; have := ha y hy; omega, ht⟩
theorem Ok.len {l : List Pr} (h : Ok l) : l.length ≤ 8192 := by
  by_cases hl : l = []
  · subst hl; simp
  · obtain ⟨a, b, e⟩ := ends_nil_or h.srt h.pos hl
    have h1 := h.ends e
    have := len_le h.srt e.all (by omega)
    omega

/-- how many keys a window has over a list, and a key more -/
def wid (l : List Pr) (k : Int) : Int := if h : 0 < l.length then max (l[l.length - 1]'(by omega)).1 k - min (l[0]'h).1 k + 1 else 1
theorem wid_nil (k : Int) : wid [] k = 1 := rfl
theorem wid_ends {l : List Pr} {a b : Int} (hs : Srt l) (h : Ends l a b) (k : Int) : wid l k = max b k - min a k + 1 := by
  obtain ⟨hl, e1, e2⟩ := ends_at hs h
  unfold wid
  rw [dif_pos hl, e1, e2]
/-- the number of Add's error -/
def addE (l : List Pr) (k : Int) (n : Nat) : Nat :=
  if n = 0 then 4 else if k < -1048576 ∨ 1048576 < k then 5 else if 8192 < wid l k then 130 else if 4611686018427387904 - ltot l < n then 6 else 0
def addL (l : List Pr) (k : Int) (n : Nat) : List Pr := if addE l k n = 0 then lput l k n else l
theorem addE_zero {l : List Pr} {k : Int} {n : Nat} (h : addE l k n = 0) : 0 < n ∧ -1048576 ≤ k ∧ k ≤ 1048576 ∧ wid l k ≤ 8192 ∧ n ≤ 4611686018427387904 - ltot l := by
  unfold addE at h
  repeat' split at h
  all_goals first | (simp at h; done) | omega
theorem Ok.put {l : List Pr} (h : Ok l) {k : Int} {n : Nat} (e : addE l k n = 0) : Ok (lput l k n) := by
  obtain ⟨h0, h1, h2, h3, h4⟩ := addE_zero e
  have ht : ltot (lput l k n) ≤ 4611686018427387904 := by rw [tot_put]; have := h.tot; omega
  by_cases hl : l = []
  · subst hl
    exact Ok.of (put_srt h.srt) (put_pos h.pos h0) (Ends.one k h0).all h1 h2 (by omega) ht
  · obtain ⟨a, b, en⟩ := ends_nil_or h.srt h.pos hl
    have hb := h.ends en
    rw [wid_ends h.srt en] at h3
    exact Ok.of (put_srt h.srt) (put_pos h.pos h0) (en.put h.srt k h0).all (by omega) (by omega) (by omega) ht
theorem Ok.add {l : List Pr} (h : Ok l) (k : Int) (n : Nat) : Ok (addL l k n) := by
  unfold addL
  split
  · exact h.put (by assumption)
  · exact h
theorem Ok.wout {l : List Pr} (h : Ok l) (k : Int) : Ok (lwout l k) :=
  ⟨wout_srt h.srt, wout_pos h.pos, fun x hx => h.key x (wout_mem.1 hx).1, fun x hx y hy => h.win x (wout_mem.1 hx).1 y (wout_mem.1 hy).1, by have := (wout_sums k h.srt h.pos).1; have := h.tot; omega⟩

/-- a window over two lists -/
def wids (l m : List Pr) : Int := if h : 0 < l.length ∧ 0 < m.length then max (l[l.length - 1]'(by omega)).1 (m[m.length - 1]'(by omega)).1 - min (l[0]'h.1).1 (m[0]'h.2).1 + 1 else 0
theorem wids_ends {l m : List Pr} {a b c d : Int} (hs : Srt l) (ht : Srt m) (h : Ends l a b) (k : Ends m c d) : wids l m = max b d - min a c + 1 := by
  obtain ⟨hl, e1, e2⟩ := ends_at hs h
  obtain ⟨hm, e3, e4⟩ := ends_at ht k
  unfold wids
  rw [dif_pos ⟨hl, hm⟩, e1, e2, e3, e4]
theorem wids_nil (m : List Pr) : wids [] m = 0 := by unfold wids; rw [dif_neg (by simp)]
/-- the number of Take's error -/
def takeE (l m : List Pr) : Nat :=
  if m = [] then 0 else if 8192 < wids l m then 130 else if 4611686018427387904 - ltot l < ltot m then 6 else 0
def takeL (l m : List Pr) : List Pr := if takeE l m = 0 then lputs l m else l
theorem takeE_zero {l m : List Pr} (hm : m ≠ []) (h : takeE l m = 0) : wids l m ≤ 8192 ∧ ltot m ≤ 4611686018427387904 - ltot l := by
  unfold takeE at h
  rw [if_neg hm] at h
  repeat' split at h
  all_goals first | (simp at h; done) | omega
theorem Ok.putAll {l m : List Pr} (h : Ok l) (k : Ok m) (hm : m ≠ []) (e : takeE l m = 0) : Ok (lputs l m) := by
  obtain ⟨h1, h2⟩ := takeE_zero hm e
  have ht : ltot (lputs l m) ≤ 4611686018427387904 := by rw [tot_putAll]; have := h.tot; omega
  obtain ⟨c, d, en⟩ := ends_nil_or k.srt k.pos hm
  have hd := k.ends en
  by_cases hl : l = []
  · subst hl
    exact Ok.of (putAll_srt h.srt m) (putAll_pos h.pos k.pos) (by rw [putAll_of_nil k.srt k.pos]; exact en.all) hd.1 hd.2.1 hd.2.2.2 ht
  · obtain ⟨a, b, el⟩ := ends_nil_or h.srt h.pos hl
    have hb := h.ends el
    rw [wids_ends h.srt k.srt el en] at h1
    exact Ok.of (putAll_srt h.srt m) (putAll_pos h.pos k.pos) (el.putAll en h.srt k.srt).all (by omega) (by omega) (by omega) ht
theorem takeL_nil (l : List Pr) : takeL l [] = l := by unfold takeL; rw [if_pos (by simp [takeE])]; rfl
theorem Ok.take {l m : List Pr} (h : Ok l) (k : Ok m) : Ok (takeL l m) := by
  by_cases hm : m = []
  · subst hm; rw [takeL_nil]; exact h
  · unfold takeL
    split
    · exact h.putAll k hm (by assumption)
    · exact h
end Go.Proofs.YthfcfmnaiopogaaGreat

/- Rows of pairs; what Pairs does. -/
namespace Go.Proofs.YthfcfmnaiopogaaGreat
open Go.RowKit

theorem info_pr : (Tryz.prog.info? 79).map (fun i => (i.zero, i.size, i.bytes)) = some (some (.agg #[.int .i64 0, .int .u64 0]), 2, 16) := by kernel_rfl
theorem elPr : ElemOk Tryz.prog 47 79 (.agg #[.int .i64 0, .int .u64 0]) 2 16 := ⟨Tryz.underlying47, info_pr, rfl, by decide, by decide⟩
def prs (l : List Pr) : List Value := l.flatMap fun t => [.int .i64 t.1, .int .u64 (t.2 : Int)]
theorem prs_snoc (l : List Pr) (t : Pr) : prs (l ++ [t]) = prs l ++ [.int .i64 t.1, .int .u64 (t.2 : Int)] := by simp [prs]
theorem prs_len (l : List Pr) : (prs l).length = l.length * 2 := by
  induction l with
  | nil => rfl
  | cons t l ih => rw [show prs (t :: l) = [.int .i64 t.1, .int .u64 (t.2 : Int)] ++ prs l from rfl, List.length_append, ih, List.length_cons]; simp; omega
theorem prs_at : ∀ (l : List Pr) (i : Nat) (h : i < l.length), (prs l)[i * 2]? = some (.int .i64 l[i].1) ∧ (prs l)[i * 2 + 1]? = some (.int .u64 (l[i].2 : Int))
  | t :: l, 0, _ => by simp [prs]
  | t :: l, i + 1, h => by
    have := prs_at l i (by simpa using h)
    rw [show prs (t :: l) = [.int .i64 t.1, .int .u64 (t.2 : Int)] ++ prs l from rfl]
    rw [List.getElem?_append_right (by simp; omega), List.getElem?_append_right (by simp; omega)]
    simp only [List.length_cons, List.length_nil, List.getElem_cons_succ]
    rw [show (i + 1) * 2 - (0 + 1 + 1) = i * 2 by omega, show (i + 1) * 2 + 1 - (0 + 1 + 1) = i * 2 + 1 by omega]
    exact this
theorem one_pr (x : Int) (y : Nat) : ∀ u ∈ (#[Value.int .i64 x, Value.int .u64 (y : Int)]).toList, u.oneCell' = true := by
  intro u hu
  simp only [List.mem_cons, List.not_mem_nil, or_false] at hu
  rcases hu with rfl | rfl <;> rfl
/-- a slice of pairs that is read -/
structure PrI (w : World) (p : Option Addr) (l : List Pr) : Prop where
  len : l.length ≤ maxLen
  cel : l ≠ [] → ∃ b off, p = some ⟨b, off, none⟩ ∧ ∀ i, (h : i < l.length) → w.cell? ⟨b, off + i * 2, none⟩ = some (.int .i64 l[i].1) ∧ w.cell? ⟨b, off + i * 2 + 1, none⟩ = some (.int .u64 (l[i].2 : Nat))
theorem PrI.fr {S : Nat → Prop} {w w' : World} {p : Option Addr} {l : List Pr} (h : PrI w p l) (f : Fr S w w') (ho : Off S p) : PrI w' p l :=
  ⟨h.len, fun hl => let ⟨b, o, hp, hc⟩ := h.cel hl; ⟨b, o, hp, fun i hi => ⟨f.cell (hc i hi).1 (ho ⟨b, o, none⟩ hp), f.cell (hc i hi).2 (ho ⟨b, o, none⟩ hp)⟩⟩⟩
theorem PrI.fr0 {w w' : World} {p : Option Addr} {l : List Pr} (h : PrI w p l) (f : Fr S0 w w') : PrI w' p l := h.fr f (Off.s0 p)
theorem PrI.at {w : World} {p : Option Addr} {l : List Pr} (h : PrI w p l) (i : Nat) (hi : i < l.length) : ∃ b off, p = some ⟨b, off, none⟩ ∧ w.cell? ⟨b, off + i * 2, none⟩ = some (.int .i64 l[i].1) ∧ w.cell? ⟨b, off + i * 2 + 1, none⟩ = some (.int .u64 (l[i].2 : Nat)) :=
  let ⟨b, off, hp, hc⟩ := h.cel (by intro e; simp [e] at hi); ⟨b, off, hp, hc i hi⟩
theorem PrI.nil (w : World) (p : Option Addr) : PrI w p [] := ⟨by simp, fun h => absurd rfl h⟩
theorem PrI.lt {w : World} {p : Option Addr} {l : List Pr} (h : PrI w p l) (hl : l ≠ []) : ∀ a, p = some a → a.block < w.heap.size := by
  intro a ha
  obtain ⟨b, off, hp, hc⟩ := h.cel hl
  rw [hp] at ha
  obtain rfl := Option.some.inj ha
  exact World.block_lt_of_cell? w _ (hc 0 (List.length_pos_iff.2 hl)).1
theorem PrI.ofOwns {w : World} {q : Option Addr} {n d : Nat} {l : List Pr} (h : w.ownsRow 0 79 2 (.slice q n d) n (prs l)) (hm : n ≤ maxLen) : PrI w q l := by
  have hlen : l.length * 2 = n * 2 := by have h1 := h.1; rw [prs_len] at h1; exact h1
  refine ⟨by omega, fun hl => ?_⟩
  rcases h.2 with ⟨hv, hn⟩ | ⟨g, cap, cur, hv, _⟩
  · exact absurd (List.eq_nil_of_length_eq_zero (by omega)) hl
  · simp only [Value.slice.injEq] at hv
    obtain ⟨rfl, -, rfl⟩ := hv
    refine ⟨g, 0, rfl, fun i hi => ?_⟩
    obtain ⟨h1, h2⟩ := prs_at l i hi
    rw [Nat.zero_add]
    exact ⟨(h.cellAt _ (by omega)).trans h1, (h.cellAt _ (by omega)).trans h2⟩
theorem slFormN {w : World} {e : TypeId} {s : Nat} {v : Value} {n : Nat} {xs : List Value} (h : w.ownsRow 0 e s v n xs) : ∃ p c, v = .slice p n c := by
  rcases h.2 with ⟨h, h0⟩ | ⟨g, cap, cur, h, _⟩
  · exact ⟨none, 0, by rw [h, h0]⟩
  · exact ⟨_, _, h⟩

/-- a block of one cell, and a row of pairs that it holds -/
structure BoxPr (w : World) (x : Nat) (v : Value) (n : Nat) (l : List Pr) : Prop where
  blk : w.heap[x]? = some (.cells #[v] 47 (0, 0))
  own : w.ownsRow 0 79 2 v n (prs l)
  off : v.ownBlock ≠ some x
theorem BoxPr.c {w : World} {x : Nat} {v : Value} {n : Nat} {l : List Pr} (h : BoxPr w x v n l) : w.cell? ⟨x, 0, none⟩ = some v := by simp [World.cell?, h.blk]
theorem BoxPr.z {w : World} {x : Nat} {v : Value} {n : Nat} {l : List Pr} (h : BoxPr w x v n l) : w.frozen? ⟨x, 0, none⟩ = false := by simp [World.frozen?, h.blk]

/-- a row of pairs that is new to w -/
structure PrsNew (w w' : World) (p : Option Addr) (c n : Nat) (l : List Pr) : Prop where
  own : w'.ownsRow 0 79 2 (.slice p n c) n (prs l)
  len : l.length = n
  fresh : ∀ a, p = some a → w.heap.size ≤ a.block
  fr : Fr S0 w w'
theorem PrsNew.pri {w w' : World} {p : Option Addr} {c n : Nat} {l : List Pr} (h : PrsNew w w' p c n l) (hn : n ≤ 1000000) : PrI w' p l := PrI.ofOwns h.own (by unfold maxLen; omega)

theorem BoxPr.fr0 {w w' : World} {x : Nat} {v : Value} {n : Nat} {l : List Pr} (h : BoxPr w x v n l) (f : Fr S0 w w') : BoxPr w' x v n l := ⟨f.row h.blk (fun h => h), f.owns h.own fun _ _ h => h, h.off⟩
end Go.Proofs.YthfcfmnaiopogaaGreat

/- The document's answers that only read: Count, Total, Wide, Same. -/
namespace Go.Proofs.YthfcfmnaiopogaaGreat
open Go.RowKit

theorem cnt_drop {l : List Pr} {k : Int} {j : Nat} (h : j < l.length) : cnt (l.drop j) k = if l[j].1 = k then l[j].2 else cnt (l.drop (j + 1)) k := by
  rw [List.drop_eq_getElem_cons h, cnt]
theorem tot_take {l : List Pr} {j : Nat} (h : j < l.length) : ltot (l.take (j + 1)) = ltot (l.take j) + l[j].2 := by
  rw [List.take_succ_eq_append_getElem h]
  generalize l.take j = d
  induction d with
  | nil => simp [ltot]
  | cons x d ih => rw [List.cons_append, ltot, ltot, ih]; omega
theorem tot_take_le (l : List Pr) (j : Nat) : ltot (l.take j) ≤ ltot l := by
  induction l generalizing j with
  | nil => simp
  | cons x l ih =>
    cases j with
    | zero => simp [ltot]
    | succ j => rw [List.take_succ_cons, ltot, ltot]; have := ih j; omega

set_option maxRecDepth 100000 in
set_option maxHeartbeats 1000000 in
theorem rcount_any (p : Option Addr) (n c : Nat) (k : Int) (l : List Pr) (w : World) (h : PrI w p l) (hn : l.length = n) :
    Calls Tryz.prog 27 #[.slice p n c, .int .i64 k] w fun e w' => e = .returned (.int .u64 (cnt l k : Nat)) ∧ Fr S0 w w' := by
  have H := Lib.hid h
  have HN := Lib.hid hn
  have hlen := h.len
  rw [hn] at hlen
  unfold maxLen at hlen
  clear h hn
  go_enter Tryz.func27, Tryz.ntmps27
  go_wp2_with fail
  go_loopw [5] (fun i wr => ∃ j : Nat, j ≤ n ∧ i = .int .i64 j ∧ Hid (cnt l k = cnt (l.drop j) k) ∧ w = wr) (fun i _ => n - (intOf i).toNat)
  case atStart => exact ⟨0, by omega, rfl, (by first | exact Lib.hid rfl | exact Lib.hid trivial), rfl⟩
  case round =>
    obtain ⟨j, hj, rfl, hc, hw⟩ := hrel
    obtain rfl := hw
    by_cases hjn : (j : Int) < (n : Int)
    · have hjl : j < l.length := by rw [HN.out]; omega
      obtain ⟨b, o, rfl, c0, c1⟩ := H.out.at j hjl
      have HD := Lib.hid (cnt_drop (k := k) hjl)
      obtain ⟨⟨tk, tn⟩, ht⟩ : ∃ t, l[j] = t := ⟨_, rfl⟩
      rw [ht] at c0 c1 HD
      clear ht
      by_cases hk : tk = k
      · have HV : Hid (cnt l k = tn) := Lib.hid (by rw [hc.out, HD.out, if_pos hk])
        clear hc HD
        go_wp2_with fail
        go_ret
        exact ⟨by first | (rw [HV.out]; done) | (rw [HV.out]; rfl), Fr.refl _ _⟩
      · have HV : Hid (cnt l k = cnt (l.drop (j + 1)) k) := Lib.hid (by rw [hc.out, HD.out, if_neg hk])
        clear hc HD
        go_wp2_with fail
        go_roundw
        case rel => exact ⟨j + 1, by omega, by go_num, HV, trivial⟩
        case measure => simp [intOf]; omega
    · obtain rfl : j = n := by omega
      have HV : Hid (cnt l k = 0) := Lib.hid (by rw [hc.out, ← HN.out, List.drop_length]; rfl)
      clear hc
      go_wp2_with fail
      go_ret
      exact ⟨by first | (rw [HV.out]; done) | (rw [HV.out]; rfl), Fr.refl _ _⟩

set_option maxRecDepth 100000 in
set_option maxHeartbeats 1000000 in
theorem rtotal_any (p : Option Addr) (n c : Nat) (l : List Pr) (w : World) (h : PrI w p l) (hn : l.length = n) (ht : ltot l < 18446744073709551616) :
    Calls Tryz.prog 19 #[.slice p n c] w fun e w' => e = .returned (.int .u64 (ltot l : Nat)) ∧ Fr S0 w w' := by
  have H := Lib.hid h
  have HN := Lib.hid hn
  have HT := Lib.hid ht
  have hlen := h.len
  rw [hn] at hlen
  unfold maxLen at hlen
  clear h hn ht
  go_enter Tryz.func19, Tryz.ntmps19
  go_wp2_with fail
  go_loopw [3, 4] (fun s i wr => ∃ j T : Nat, j ≤ n ∧ i = .int .i64 j ∧ s = .int .u64 T ∧ Hid (ltot (l.take j) = T) ∧ w = wr) (fun _ i _ => n - (intOf i).toNat)
  case atStart => exact ⟨0, 0, by omega, rfl, rfl, (by first | exact Lib.hid rfl | exact Lib.hid trivial), rfl⟩
  case round =>
    obtain ⟨j, T, hj, rfl, rfl, hT, hw⟩ := hrel
    obtain rfl := hw
    by_cases hjn : (j : Int) < (n : Int)
    · have hjl : j < l.length := by rw [HN.out]; omega
      obtain ⟨b, o, rfl, c0, c1⟩ := H.out.at j hjl
      have HD := Lib.hid (tot_take hjl)
      have hle := tot_take_le l (j + 1)
      rw [HD.out, hT.out] at hle
      obtain ⟨⟨tk, tn⟩, ht⟩ : ∃ t, l[j] = t := ⟨_, rfl⟩
      rw [ht] at c0 c1 HD hle
      have hlt : T + tn < 18446744073709551616 := by have := HT.out; simp only at hle; omega
      clear ht hle
      simp only at c0 c1 hlt HD
      have HDD : Hid (ltot (l.take (j + 1)) = T + tn) := Lib.hid (by rw [HD.out, hT.out])
      clear HD hT
      go_wp2_with fail
      go_roundw
      case rel => exact ⟨j + 1, T + tn, by omega, by go_num, by go_num, HDD, trivial⟩
      case measure => simp [intOf]; omega
    · obtain rfl : j = n := by omega
      have HV : Hid (ltot l = T) := Lib.hid (by rw [← hT.out, ← HN.out, List.take_length])
      clear hT
      go_wp2_with fail
      go_ret
      exact ⟨by first | (rw [HV.out]; done) | (rw [HV.out]; rfl), Fr.refl _ _⟩

end Go.Proofs.YthfcfmnaiopogaaGreat

/- The document's answers that make rows: Same, Put, Without. -/
namespace Go.Proofs.YthfcfmnaiopogaaGreat
open Go.RowKit

set_option maxRecDepth 100000 in
set_option maxHeartbeats 1000000 in
theorem rsame_yes (p q : Option Addr) (n c d : Nat) (l : List Pr) (w : World) (h : PrI w p l) (h' : PrI w q l) (hn : l.length = n) :
    Calls Tryz.prog 59 #[.slice p n c, .slice q n d] w fun e w' => e = .returned (.bool true) ∧ Fr S0 w w' := by
  have H := Lib.hid h
  have H' := Lib.hid h'
  have HN := Lib.hid hn
  have hlen := h.len
  rw [hn] at hlen
  unfold maxLen at hlen
  clear h h' hn
  go_enter Tryz.func59, Tryz.ntmps59
  go_wp2_with fail
  go_loopw [5] (fun i wr => ∃ j : Nat, j ≤ n ∧ i = .int .i64 j ∧ Fr S0 w wr) (fun i _ => n - (intOf i).toNat)
  case atStart => exact ⟨0, by omega, rfl, Fr.refl _ _⟩
  case round =>
    obtain ⟨j, hj, rfl, hfr⟩ := hrel
    have HFR := Lib.hid hfr
    clear hfr
    by_cases hjn : (j : Int) < (n : Int)
    · obtain ⟨b, o, rfl, c0, c1⟩ := (H.out.fr0 HFR.out).at j (by rw [HN.out]; omega)
      obtain ⟨b', o', rfl, e0, e1⟩ := (H'.out.fr0 HFR.out).at j (by rw [HN.out]; omega)
      obtain ⟨⟨tk, tn⟩, ht⟩ : ∃ t, l[j]'(by rw [HN.out]; omega) = t := ⟨_, rfl⟩
      rw [ht] at c0 c1 e0 e1
      clear ht
      go_wp2_with fail
      go_quiet (fail)
      go_wp2_with fail
      go_roundw
      case rel => exact ⟨j + 1, by omega, by go_num, HFR.out.trans0 (Fr.drewN _ _ _)⟩
      case measure => simp [intOf]; omega
    · go_wp2_with fail
      go_ret
      exact ⟨rfl, HFR.out⟩

/-- a row of pairs that is being made, new to w -/
structure Acc (w wr : World) (v : Value) (N : Nat) (L : List Pr) : Prop where
  own : wr.ownsRow 0 79 2 v N (prs L)
  fresh : Fresh w v
  fr : Fr S0 w wr
theorem Acc.nil {w wr : World} (f : Fr S0 w wr) : Acc w wr (.slice none 0 0) 0 [] := ⟨World.ownsRow_nil _ _ _ _, fresh_nil _ _, f⟩
theorem Acc.len {w wr : World} {v : Value} {N : Nat} {L : List Pr} (h : Acc w wr v N L) : L.length = N := by
  have := h.own.1
  rw [prs_len] at this
  omega
theorem Acc.fr0 {w wr w2 : World} {v : Value} {N : Nat} {L : List Pr} (h : Acc w wr v N L) (f : Fr S0 wr w2) : Acc w w2 v N L := ⟨f.owns h.own fun _ _ h => h, h.fresh, h.fr.trans0 f⟩
theorem Acc.app {w wr w3 : World} {v : Value} {N : Nat} {L : List Pr} {o : Obj} {g cap n : Nat} {k : Int} (h : Acc w wr v N L) (own : w3.ownsRow 0 79 2 (.slice (some ⟨g, 0, none⟩) (N + 1) cap) (N + 1) (prs L ++ #[Value.int .i64 k, Value.int .u64 (n : Int)].toList))
    (hg : (wr.alloc o).grownBy w3 v.ownBlock) (hat : v.ownBlock = some g ∨ g = wr.heap.size + 1) : Acc w w3 (.slice (some ⟨g, 0, none⟩) (N + 1) cap) (N + 1) (L ++ [(k, n)]) :=
  ⟨by rw [prs_snoc]; exact own, fresh_app h.fr h.fresh hat, (h.fr.trans0 (Fr.alloc S0 wr _)).append hg h.fresh⟩
/-- a slice of pairs that is new to w, or one that was there -/
structure Rd (w : World) (v : Value) (l : List Pr) : Prop where
  ex : ∃ p n c, v = .slice p n c ∧ l.length = n ∧ PrI w p l
theorem Acc.rd {w wr : World} {v : Value} {N : Nat} {L : List Pr} (h : Acc w wr v N L) (hN : N ≤ 100000) : Rd wr v L := by
  have hl := h.len
  obtain ⟨own, f, r⟩ := h
  obtain ⟨p, c, rfl⟩ := slFormN own
  exact ⟨p, _, c, rfl, hl, PrI.ofOwns own (by unfold maxLen; omega)⟩

set_option maxRecDepth 100000 in
set_option maxHeartbeats 2000000 in
theorem rput_any (p : Option Addr) (m c n : Nat) (k : Int) (l : List Pr) (w : World) (h : PrI w p l) (hm : l.length = m) (hM : m ≤ 100000) (ht : ltot l + n < 18446744073709551616) :
    Calls Tryz.prog 102 #[.slice p m c, .int .i64 k, .int .u64 (n : Nat)] w fun e w' => ∃ v N, e = .returned v ∧ Acc w w' v N (lput l k n) := by
  have H := Lib.hid h
  have HM := Lib.hid hm
  have HT := Lib.hid (fun (j : Nat) (hj : j < l.length) => (by have h1 := tot_take hj; have h2 := tot_take_le l (j + 1); omega : l[j].2 + n < 18446744073709551616))
  have hnn : (n : Int) < 18446744073709551616 := by omega
  have HNN := Lib.hid hnn
  clear h hm ht hnn
  go_enter Tryz.func102, Tryz.ntmps102
  go_wp2_with fail
  go_loopw [7, 8, 9] (fun o d i wr => ∃ (j N : Nat) (L : List Pr) (dn : Bool), j ≤ m ∧ i = .int .i64 j ∧ d = .bool dn ∧ N ≤ j + dn.toNat ∧ Hid (Acc w wr o N L) ∧ Hid (L ++ (if dn then l.drop j else lput (l.drop j) k n) = lput l k n)) (fun _ _ i _ => m - (intOf i).toNat)
  case atStart => exact ⟨0, 0, [], false, by omega, rfl, rfl, by simp, Lib.hid (Acc.nil (Fr.refl _ _)), by first | exact Lib.hid rfl | exact Lib.hid trivial⟩
  case round =>
    obtain ⟨j, N, L, dn, hj, rfl, rfl, hNj', hacc, heq⟩ := hrel
    have hNj := Lib.hid hNj'
    have hN1 : N ≤ j + 1 := by cases dn <;> simp at hNj' <;> omega
    clear hNj'
    obtain ⟨pv, cv, rfl⟩ := slFormN hacc.out.own
    have HR : Hid (Room (N + 1)) := Lib.hid (Room.mk (by omega))
    have HR2 : Hid (Room (N + 1 + 1)) := Lib.hid (Room.mk (by omega))
    by_cases hjm : (j : Int) < (m : Int)
    · have hjl : j < l.length := by rw [HM.out]; omega
      have HT1 := HT.out j hjl
      have HDR := Lib.hid (List.drop_eq_getElem_cons hjl)
      obtain ⟨b, o, rfl, c0, c1⟩ := (H.out.fr0 hacc.out.fr).at j hjl
      have HC : Hid (∀ W, Fr S0 w W → W.cell? ⟨b, o + j * 2, none⟩ = some (.int .i64 l[j].1) ∧ W.cell? ⟨b, o + j * 2 + 1, none⟩ = some (.int .u64 (l[j].2 : Int))) := Lib.hid fun W f => by
        obtain ⟨b', o', hp, c3, c4⟩ := (H.out.fr0 f).at j hjl
        simp only [Option.some.injEq, Addr.mk.injEq] at hp
        obtain ⟨rfl, rfl, -⟩ := hp
        exact ⟨c3, c4⟩
      obtain ⟨⟨tk, tn⟩, ht⟩ : ∃ t, l[j] = t := ⟨_, rfl⟩
      rw [ht] at c0 c1 HDR HT1 HC
      simp only at c0 c1 HT1 HC
      clear ht
      cases dn with
      | true =>
        have HE : Hid ((L ++ [(tk, tn)]) ++ l.drop (j + 1) = lput l k n) := Lib.hid (by rw [← heq.out, if_pos rfl, HDR.out, List.append_assoc]; rfl)
        clear heq HDR
        go_wp2_with ((with_reducible show wpList _ _ _ (Oper.mk (some 58) _ _ _ _ _ :: _) _ _); refine app_one elPr (.tmp 52) (.tmp 57) rfl hacc.out.own rfl rfl rfl rfl rfl (one_pr tk tn) HR.out ?_; intro g1 cap1 w3 hown hgrow hat hlt; have HA3 := Lib.hid (hacc.out.app hown hgrow hat); clear hown hgrow hat hlt)
        go_roundw
        case rel => exact ⟨j + 1, N + 1, _, true, by omega, by go_num, rfl, by have := hNj.out; simp at this ⊢; omega, HA3, by rw [if_pos rfl]; exact HE⟩
        case measure => simp [intOf]; omega
      | false =>
        by_cases hlt : tk < k
        · have HE : Hid ((L ++ [(tk, tn)]) ++ lput (l.drop (j + 1)) k n = lput l k n) := Lib.hid (by rw [← heq.out, if_neg (by decide), HDR.out, lput, if_pos hlt, List.append_assoc]; rfl)
          have hge : decide (k ≤ tk) = false := decide_eq_false (by omega)
          clear heq HDR
          go_wp2_with ((with_reducible show wpList _ _ _ (Oper.mk (some 58) _ _ _ _ _ :: _) _ _); refine app_one elPr (.tmp 52) (.tmp 57) rfl hacc.out.own rfl rfl rfl rfl rfl (one_pr tk tn) HR.out ?_; intro g1 cap1 w3 hown hgrow hat hlt; have HA3 := Lib.hid (hacc.out.app hown hgrow hat); clear hown hgrow hat hlt)
          go_roundw
          case rel => exact ⟨j + 1, N + 1, _, false, by omega, by go_num, rfl, by have := hNj.out; simp at this ⊢; omega, HA3, by rw [if_neg (by decide)]; exact HE⟩
          case measure => simp [intOf]; omega
        · have hge : decide (k ≤ tk) = true := decide_eq_true (by omega)
          by_cases hk : tk = k
          · subst hk
            have HE : Hid ((L ++ [(tk, tn + n)]) ++ l.drop (j + 1) = lput l tk n) := Lib.hid (by rw [← heq.out, if_neg (by decide), HDR.out, lput, if_neg hlt, if_pos rfl, List.append_assoc]; rfl)
            have esum : (tn : Int) + (n : Int) = ((tn + n : Nat) : Int) := by omega
            obtain ⟨U, hU⟩ : ∃ U, tn + n = U := ⟨_, rfl⟩
            rw [hU] at HE esum HT1
            have hUm : (U : Int) < 18446744073709551616 := by omega
            clear heq HDR hlt hU HT1
            go_wp2_with ((with_reducible show wpList _ _ _ (Oper.mk (some 45) _ _ _ _ _ :: _) _ _); refine app_one elPr (.tmp 34) (.tmp 44) rfl hacc.out.own rfl rfl rfl rfl rfl (one_pr tk U) HR.out ?_; intro g1 cap1 w3 hown hgrow hat hlt; have HA3 := Lib.hid (hacc.out.app hown hgrow hat); clear hown hgrow hat hlt)
            go_roundw
            case rel => exact ⟨j + 1, N + 1, _, true, by omega, by go_num, rfl, by have := hNj.out; simp at this ⊢; omega, HA3, by rw [if_pos rfl]; exact HE⟩
            case measure => simp [intOf]; omega
          · have HE : Hid (((L ++ [(k, n)]) ++ [(tk, tn)]) ++ l.drop (j + 1) = lput l k n) := Lib.hid (by rw [← heq.out, if_neg (by decide), HDR.out, lput, if_neg hlt, if_neg hk, List.append_assoc, List.append_assoc]; rfl)
            have hkk : (tk == k) = false := by rw [beq_eq_false_iff_ne]; exact hk
            clear heq HDR hlt hk
            go_wp2_with (first
              | ((with_reducible show wpList _ _ _ (Oper.mk (some 51) _ _ _ _ _ :: _) _ _); refine app_one elPr (.tmp 46) (.tmp 50) rfl hacc.out.own rfl rfl rfl rfl rfl (one_pr k n) HR.out ?_; intro g1 cap1 w3 hown hgrow hat hlt; have HA3 := Lib.hid (hacc.out.app hown hgrow hat); obtain ⟨d0, d1⟩ := HC.out w3 HA3.out.fr; clear hown hgrow hat hlt)
              | ((with_reducible show wpList _ _ _ (Oper.mk (some 58) _ _ _ _ _ :: _) _ _); refine app_one elPr (.tmp 52) (.tmp 57) rfl HA3.out.own rfl rfl rfl rfl rfl (one_pr tk tn) HR2.out ?_; intro g2 cap2 w4 hown hgrow hat hlt; have HA4 := Lib.hid (HA3.out.app hown hgrow hat); clear hown hgrow hat hlt))
            go_roundw
            case rel => exact ⟨j + 1, N + 1 + 1, _, true, by omega, by go_num, rfl, by have := hNj.out; simp at this ⊢; omega, HA4, by rw [if_pos rfl]; exact HE⟩
            case measure => simp [intOf]; omega
    · obtain rfl : j = m := by omega
      cases dn with
      | true =>
        have HE : Hid (L = lput l k n) := Lib.hid (by rw [← heq.out, if_pos rfl, ← HM.out, List.drop_length, List.append_nil])
        clear heq
        go_wp2_with fail
        go_ret
        exact ⟨_, rfl, N, by rw [← HE.out]; exact hacc.out⟩
      | false =>
        have HE : Hid (L ++ [(k, n)] = lput l k n) := Lib.hid (by rw [← heq.out, if_neg (by decide), ← HM.out, List.drop_length, lput])
        clear heq
        go_wp2_with ((with_reducible show wpList _ _ _ (Oper.mk (some 66) _ _ _ _ _ :: _) _ _); refine app_one elPr (.tmp 61) (.tmp 65) rfl hacc.out.own rfl rfl rfl rfl rfl (one_pr k n) HR.out ?_; intro g1 cap1 w3 hown hgrow hat hlt; have HA3 := Lib.hid (hacc.out.app hown hgrow hat); clear hown hgrow hat hlt)
        go_ret
        exact ⟨_, rfl, N + 1, by rw [← HE.out]; exact HA3.out⟩

end Go.Proofs.YthfcfmnaiopogaaGreat

/- Ranks and cuts in lists of keys and counts. -/
namespace Go.Proofs.YthfcfmnaiopogaaGreat

/-- how many things have a lesser key; and how many have none greater -/
def bel : List Pr → Int → Nat
  | [], _ => 0
  | x :: r, k => (if x.1 < k then x.2 else 0) + bel r k
def upt : List Pr → Int → Nat
  | [], _ => 0
  | x :: r, k => (if x.1 ≤ k then x.2 else 0) + upt r k
theorem bel_upt (l : List Pr) {j k : Int} (h : j < k) : upt l j ≤ bel l k := by
  induction l with
  | nil => exact Nat.le_refl _
  | cons x r ih =>
    rw [upt, bel]
    by_cases e : x.1 ≤ j
    · rw [if_pos e, if_pos (by omega)]; omega
    · rw [if_neg e]; omega
theorem upt_bel (l : List Pr) (hs : Srt l) (k : Int) : upt l k = bel l k + cnt l k := by
  induction l with
  | nil => rfl
  | cons x r ih =>
    have hs' := srt_cons.1 hs
    have := ih hs'.2
    rw [upt, bel, cnt]
    by_cases e : x.1 = k
    · rw [if_pos (by omega), if_neg (by omega), if_pos e]
      have h0 : cnt r k = 0 := cnt_out fun y hy => by have := hs'.1 y hy; omega
      omega
    · rw [if_neg e]
      by_cases e2 : x.1 < k
      · rw [if_pos (by omega), if_pos e2]; omega
      · rw [if_neg (by omega), if_neg e2]; omega
theorem bel_zero {l : List Pr} {k : Int} (h : ∀ x ∈ l, k ≤ x.1) : bel l k = 0 := by
  induction l with
  | nil => rfl
  | cons x r ih =>
    have := h x List.mem_cons_self
    rw [bel, if_neg (by omega), ih fun y hy => h y (List.mem_cons_of_mem _ hy)]
theorem upt_zero {l : List Pr} {k : Int} (h : ∀ x ∈ l, k < x.1) : upt l k = 0 := by
  induction l with
  | nil => rfl
  | cons x r ih =>
    have := h x List.mem_cons_self
    rw [upt, if_neg (by omega), ih fun y hy => h y (List.mem_cons_of_mem _ hy)]
/-- the key of a rank: counts are walked through -/
def keyW : List Pr → Nat → Int
  | [], _ => 0
  | x :: t, r => if r ≤ x.2 then x.1 else keyW t (r - x.2)
theorem keyW_rank : ∀ {l : List Pr} {r : Nat}, Srt l → 1 ≤ r → r ≤ ltot l → (∃ x ∈ l, x.1 = keyW l r) ∧ bel l (keyW l r) < r ∧ r ≤ upt l (keyW l r)
  | [], r, _, h1, h2 => by simp only [ltot] at h2; omega
  | x :: t, r, hs, h1, h2 => by
    have hs' := srt_cons.1 hs
    rw [keyW]
    by_cases e : r ≤ x.2
    · rw [if_pos e]
      refine ⟨⟨x, List.mem_cons_self, rfl⟩, ?_, ?_⟩
      · rw [bel, if_neg (by omega), bel_zero fun y hy => by have := hs'.1 y hy; omega]; omega
      · rw [upt, if_pos (by omega)]; omega
    · rw [if_neg e]
      rw [ltot] at h2
      obtain ⟨⟨y, hy, ey⟩, k1, k2⟩ := keyW_rank (l := t) (r := r - x.2) hs'.2 (by omega) (by omega)
      have hxy := hs'.1 y hy
      refine ⟨⟨y, List.mem_cons_of_mem _ hy, ey⟩, ?_, ?_⟩
      · rw [bel, if_pos (by omega)]; omega
      · rw [upt, if_pos (by omega)]; omega
/-- the key of a rank is told by what is below it -/
theorem keyW_only {l : List Pr} {r : Nat} {k : Int} (hs : Srt l) (h1 : 1 ≤ r) (h2 : r ≤ ltot l) (h3 : bel l k < r) (h4 : r ≤ upt l k) : keyW l r = k := by
  obtain ⟨-, k1, k2⟩ := keyW_rank hs h1 h2
  rcases (by omega : keyW l r < k ∨ keyW l r = k ∨ k < keyW l r) with h | h | h
  · have := bel_upt l h; omega
  · exact h
  · have := bel_upt l h; omega

/-- the pairs of greater keys -/
def above (l : List Pr) (q : Int) : List Pr := l.filter fun x => q < x.1
theorem above_mem {l : List Pr} {q : Int} {x : Pr} : x ∈ above l q ↔ x ∈ l ∧ q < x.1 := by unfold above; simp
theorem above_srt {l : List Pr} {q : Int} (h : Srt l) : Srt (above l q) := h.filter _
theorem above_pos {l : List Pr} {q : Int} (h : Pos l) : Pos (above l q) := fun x hx => h x (above_mem.1 hx).1
theorem above_cnt (l : List Pr) (q j : Int) : cnt (above l q) j = if q < j then cnt l j else 0 := by
  unfold above
  induction l with
  | nil => simp [cnt]
  | cons x r ih =>
    rw [List.filter_cons]
    by_cases e : q < x.1
    · rw [if_pos (by simpa using e), cnt, cnt, ih]
      by_cases ej : x.1 = j
      · rw [if_pos ej, if_pos (by omega), if_pos ej]
      · rw [if_neg ej]
        by_cases eq : q < j
        · rw [if_pos eq, if_pos eq, if_neg ej]
        · rw [if_neg eq, if_neg eq]
    · rw [if_neg (by simpa using e), cnt, ih]
      by_cases eq : q < j
      · rw [if_pos eq, if_pos eq, if_neg (by omega)]
      · rw [if_neg eq, if_neg eq]
theorem above_tot (l : List Pr) (q : Int) : ltot (above l q) + upt l q = ltot l := by
  unfold above
  induction l with
  | nil => rfl
  | cons x r ih =>
    rw [List.filter_cons, upt, ltot]
    by_cases e : q < x.1
    · rw [if_pos (by simpa using e), if_neg (by omega), ltot]; omega
    · rw [if_neg (by simpa using e), if_pos (by omega)]; omega
theorem above_all {l : List Pr} {q : Int} (h : ∀ x ∈ l, q < x.1) : above l q = l := by
  unfold above
  rw [List.filter_eq_self]
  intro x hx
  simpa using h x hx
theorem above_none {l : List Pr} {q : Int} (h : ∀ x ∈ l, x.1 ≤ q) : above l q = [] := by
  unfold above
  rw [List.filter_eq_nil_iff]
  intro x hx
  have := h x hx
  simp; omega
/-- fewer keys, a shorter list -/
theorem len_sub : ∀ {u a : List Pr}, Srt a → Srt u → (∀ x ∈ a, ∃ y ∈ u, y.1 = x.1) → a.length ≤ u.length
  | [], a, _, _, h => by
    cases a with
    | nil => exact Nat.le_refl _
    | cons x a => obtain ⟨y, hy, -⟩ := h x List.mem_cons_self; cases hy
  | y :: u, [], _, _, _ => Nat.zero_le _
  | y :: u, x :: a, ha, hu, h => by
    have ha' := srt_cons.1 ha
    have hu' := srt_cons.1 hu
    obtain ⟨z, hz, ez⟩ := h x List.mem_cons_self
    rcases List.mem_cons.1 hz with rfl | hz
    · have := len_sub ha'.2 hu'.2 fun v hv => by
        obtain ⟨s, hs, es⟩ := h v (List.mem_cons_of_mem _ hv)
        have := ha'.1 v hv
        rcases List.mem_cons.1 hs with rfl | hs
        · omega
        · exact ⟨s, hs, es⟩
      simpa using this
    · have hlt := hu'.1 z hz
      have := len_sub ha hu'.2 fun v hv => by
        obtain ⟨s, hs, es⟩ := h v hv
        have hxv : x.1 ≤ v.1 := by
          rcases List.mem_cons.1 hv with rfl | hv
          · omega
          · have := ha'.1 v hv; omega
        rcases List.mem_cons.1 hs with rfl | hs
        · omega
        · exact ⟨s, hs, es⟩
      simp only [List.length_cons] at this ⊢
      omega

/-- the list that stays of a cut to m keys, and how much was put to its least one -/
def cutN (l : List Pr) (m : Nat) : List Pr :=
  if l.length ≤ m then l else match l.drop (l.length - m) with
    | [] => []
    | x :: t => (x.1, x.2 + ltot (l.take (l.length - m))) :: t
def cutA (l : List Pr) (m : Nat) : Nat := ltot (l.take (l.length - m))
theorem cutA_none {l : List Pr} {m : Nat} (h : l.length ≤ m) : cutA l m = 0 := by unfold cutA; rw [show l.length - m = 0 by omega]; rfl
theorem cut_none {l : List Pr} {m : Nat} (h : l.length ≤ m) : cutN l m = l := if_pos h
theorem tot_app (a b : List Pr) : ltot (a ++ b) = ltot a + ltot b := by
  induction a with
  | nil => simp [ltot]
  | cons x a ih => rw [List.cons_append, ltot, ltot, ih]; omega
/-- a list that is cut, in parts -/
theorem cut_parts {l : List Pr} {m : Nat} (hm : 1 ≤ m) (h : m ≤ l.length) : ∃ t x u, l = t ++ x :: u ∧ u.length + 1 = m ∧ t.length = l.length - m ∧ (m < l.length → cutN l m = (x.1, x.2 + ltot t) :: u) := by
  have hd : (l.drop (l.length - m)).length = m := by rw [List.length_drop]; omega
  cases hx : l.drop (l.length - m) with
  | nil => rw [hx] at hd; simp at hd; omega
  | cons x u =>
    rw [hx] at hd
    refine ⟨l.take (l.length - m), x, u, by rw [← hx, List.take_append_drop], by simpa using hd, by rw [List.length_take]; omega, fun hlt => ?_⟩
    unfold cutN
    rw [if_neg (by omega), hx]
theorem above_parts {t u : List Pr} {x : Pr} (hs : Srt (t ++ x :: u)) : above (t ++ x :: u) x.1 = u := by
  have h1 := List.pairwise_append.1 hs
  have h2 := srt_cons.1 h1.2.1
  have e1 : above (t ++ x :: u) x.1 = above t x.1 ++ above (x :: u) x.1 := by unfold above; rw [List.filter_append]
  have e2 : above (x :: u) x.1 = above u x.1 := by unfold above; rw [List.filter_cons, if_neg (by simp)]
  rw [e1, e2, above_none fun y hy => by have := h1.2.2 y hy x List.mem_cons_self; omega, above_all fun y hy => h2.1 y hy]
  rfl
/-- a cut at the key q, which has m - 1 keys above it -/
theorem cut_at {l : List Pr} {m : Nat} {q : Int} (hs : Srt l) (hq : cnt l q ≠ 0) (h : (above l q).length + 1 = m) : cutN l m = (q, upt l q) :: above l q := by
  obtain ⟨z, hz, ez⟩ := cnt_in hq
  obtain ⟨t, u, e⟩ := List.append_of_mem hz
  subst ez
  subst e
  have ea := above_parts hs
  rw [ea] at h ⊢
  have h1 := List.pairwise_append.1 hs
  have h2 := srt_cons.1 h1.2.1
  have ht := above_tot (t ++ z :: u) z.1
  rw [ea, tot_app, ltot] at ht
  by_cases hlt : (t ++ z :: u).length ≤ m
  · have ht0 : t = [] := by
      rw [List.length_append, List.length_cons] at hlt
      exact List.eq_nil_of_length_eq_zero (by omega)
    subst ht0
    rw [cut_none hlt]
    simp only [List.nil_append, ltot] at ht ⊢
    rw [show upt (z :: u) z.1 = z.2 by omega]
  · obtain ⟨t', x, u', e, e1, e2, e3⟩ := cut_parts (l := t ++ z :: u) (m := m) (by omega) (by omega)
    rw [e3 (by omega)]
    have hl : t.length = t'.length := by rw [e2, List.length_append, List.length_cons]; omega
    obtain ⟨r1, r2⟩ := List.append_inj e hl
    obtain ⟨rfl, rfl⟩ := List.cons.inj r2
    subst r1
    rw [show upt (t ++ z :: u) z.1 = z.2 + ltot t by omega]
/-- where a list is cut -/
theorem cut_key {l : List Pr} {m : Nat} (hs : Srt l) (hp : Pos l) (hm : 1 ≤ m) (h : m ≤ l.length) : ∃ q, cnt l q ≠ 0 ∧ (above l q).length + 1 = m := by
  obtain ⟨t, x, u, e, e1, -, -⟩ := cut_parts hm h
  refine ⟨x.1, cnt_ne hs hp (by rw [e]; simp), ?_⟩
  rw [e] at hs ⊢
  rw [above_parts hs]
  exact e1
/-- what stays of a cut at q -/
theorem cut_cnt {l : List Pr} {m : Nat} {q : Int} (hs : Srt l) (hq : cnt l q ≠ 0) (h : (above l q).length + 1 = m) (j : Int) : cnt (cutN l m) j = if j < q then 0 else if j = q then upt l q else cnt l j := by
  rw [cut_at hs hq h, cnt, above_cnt]
  simp only
  by_cases e : q = j
  · rw [if_pos e, if_neg (by omega), if_pos e.symm]
  · rw [if_neg e]
    by_cases e2 : j < q
    · rw [if_pos e2, if_neg (by omega)]
    · rw [if_neg e2, if_pos (show q < j by omega), if_neg (show ¬ j = q by omega)]
theorem cut_srt {l : List Pr} {m : Nat} (hs : Srt l) (hp : Pos l) (hm : 1 ≤ m) : Srt (cutN l m) := by
  by_cases h : l.length ≤ m
  · rw [cut_none h]; exact hs
  · obtain ⟨q, h1, h2⟩ := cut_key hs hp hm (by omega)
    rw [cut_at hs h1 h2]
    exact srt_cons.2 ⟨fun y hy => (above_mem.1 hy).2, above_srt hs⟩
theorem upt_ne {l : List Pr} {q : Int} (hs : Srt l) (h : cnt l q ≠ 0) : upt l q ≠ 0 := by rw [upt_bel l hs]; omega
theorem cut_pos {l : List Pr} {m : Nat} (hs : Srt l) (hp : Pos l) (hm : 1 ≤ m) : Pos (cutN l m) := by
  by_cases h : l.length ≤ m
  · rw [cut_none h]; exact hp
  · obtain ⟨q, h1, h2⟩ := cut_key hs hp hm (by omega)
    rw [cut_at hs h1 h2]
    exact pos_cons.2 ⟨by have := upt_ne hs h1; simp only; omega, above_pos hp⟩
theorem cut_len {l : List Pr} {m : Nat} (hs : Srt l) (hp : Pos l) (hm : 1 ≤ m) : (cutN l m).length ≤ m := by
  by_cases h : l.length ≤ m
  · rw [cut_none h]; exact h
  · obtain ⟨q, h1, h2⟩ := cut_key hs hp hm (by omega)
    rw [cut_at hs h1 h2, List.length_cons]; omega
theorem cut_tot {l : List Pr} {m : Nat} (hs : Srt l) (hp : Pos l) (hm : 1 ≤ m) : ltot (cutN l m) = ltot l := by
  by_cases h : l.length ≤ m
  · rw [cut_none h]
  · obtain ⟨q, h1, h2⟩ := cut_key hs hp hm (by omega)
    have := above_tot l q
    rw [cut_at hs h1 h2, ltot]
    simp only
    omega
theorem cut_mem {l : List Pr} {m : Nat} (hs : Srt l) (hp : Pos l) (hm : 1 ≤ m) {x : Pr} (hx : x ∈ cutN l m) : ∃ y ∈ l, y.1 = x.1 := by
  by_cases h : l.length ≤ m
  · rw [cut_none h] at hx; exact ⟨x, hx, rfl⟩
  · obtain ⟨q, h1, h2⟩ := cut_key hs hp hm (by omega)
    rw [cut_at hs h1 h2] at hx
    rcases List.mem_cons.1 hx with rfl | hx
    · obtain ⟨y, hy, e⟩ := cnt_in h1
      exact ⟨y, hy, e⟩
    · exact ⟨x, (above_mem.1 hx).1, rfl⟩
/-- the keys that stay, but the least one, have their counts -/
theorem cut_rest {l : List Pr} {m : Nat} (hs : Srt l) (hp : Pos l) (hm : 1 ≤ m) (i : Nat) (h0 : 1 ≤ i) (hi : i < (cutN l m).length) : ((cutN l m)[i]).2 = cnt l ((cutN l m)[i]).1 := by
  by_cases h : l.length ≤ m
  · have e := cut_none h
    have hmem : (cutN l m)[i] ∈ l := by
      have hz := List.getElem_mem hi
      generalize (cutN l m)[i] = z at hz ⊢
      rwa [e] at hz
    exact (cnt_mem hs hmem).symm
  · obtain ⟨q, h1, h2⟩ := cut_key hs hp hm (by omega)
    have e := cut_at hs h1 h2
    have hmem : (cutN l m)[i] ∈ l := by
      have hi' : i - 1 < (above l q).length := by rw [e, List.length_cons] at hi; omega
      have e3 : (cutN l m)[i] = (above l q)[i - 1] := by
        have : (cutN l m)[i]? = (above l q)[i - 1]? := by
          rw [e, List.getElem?_cons, if_neg (by omega)]
        rw [List.getElem?_eq_getElem hi, List.getElem?_eq_getElem hi'] at this
        exact Option.some.inj this
      rw [e3]
      exact (above_mem.1 (List.getElem_mem hi')).1
    exact (cnt_mem hs hmem).symm
/-- no rank's key becomes less -/
theorem cut_upt {l : List Pr} {m : Nat} (hs : Srt l) (hp : Pos l) (hm : 1 ≤ m) (k : Int) : upt (cutN l m) k ≤ upt l k := by
  by_cases h : l.length ≤ m
  · rw [cut_none h]; exact Nat.le_refl _
  · obtain ⟨q, h1, h2⟩ := cut_key hs hp hm (by omega)
    have e := cut_at hs h1 h2
    have t1 := above_tot (cutN l m) k
    have t2 := above_tot l k
    rw [cut_tot hs hp hm] at t1
    by_cases hk : k < q
    · rw [e, upt_zero fun x hx => ?_]
      · exact Nat.zero_le _
      · rcases List.mem_cons.1 hx with rfl | hx
        · exact hk
        · have := (above_mem.1 hx).2; omega
    · have ea : above (cutN l m) k = above l k := ext_cnt (above_srt (cut_srt hs hp hm)) (above_srt hs) (above_pos (cut_pos hs hp hm)) (above_pos hp) fun j => by
        rw [above_cnt, above_cnt, cut_cnt hs h1 h2]
        by_cases hj : k < j
        · rw [if_pos hj, if_pos hj, if_neg (by omega), if_neg (by omega)]
        · rw [if_neg hj, if_neg hj]
      rw [ea] at t1
      omega
theorem cut_key_mono {l : List Pr} {m r : Nat} (hs : Srt l) (hp : Pos l) (hm : 1 ≤ m) (h1 : 1 ≤ r) (h2 : r ≤ ltot l) : keyW l r ≤ keyW (cutN l m) r := by
  obtain ⟨-, a1, a2⟩ := keyW_rank hs h1 h2
  obtain ⟨-, b1, b2⟩ := keyW_rank (cut_srt hs hp hm) h1 (by rw [cut_tot hs hp hm]; exact h2)
  rcases (by omega : keyW l r ≤ keyW (cutN l m) r ∨ keyW (cutN l m) r < keyW l r) with h | h
  · exact h
  · have c1 := cut_upt hs hp hm (keyW (cutN l m) r)
    have c2 := bel_upt l h
    omega

/-- a list of which at most m keys stay, beside another one that is cut at q -/
theorem cut_beside {a u : List Pr} {m : Nat} {q : Int} (ha : Srt a) (pa : Pos a) (hu : Srt u) (hm : 1 ≤ m) (hin : ∀ x ∈ a, ∃ y ∈ u, y.1 = x.1) (hq : (above u q).length + 1 = m) :
    (∀ j, q < j → cnt (cutN a m) j = cnt a j) ∧ (cnt a q ≠ 0 → cnt (cutN a m) q ≠ 0) := by
  by_cases h : a.length ≤ m
  · rw [cut_none h]; exact ⟨fun _ _ => rfl, id⟩
  · obtain ⟨p, h1, h2⟩ := cut_key ha pa hm (by omega)
    have hpq : p ≤ q := by
      rcases (by omega : p ≤ q ∨ q < p) with h | h
      · exact h
      · obtain ⟨z, hz, ez⟩ := cnt_in h1
        have hs2 : Srt (z :: above a p) := srt_cons.2 ⟨fun y hy => by have := (above_mem.1 hy).2; omega, above_srt ha⟩
        have := len_sub (u := above u q) hs2 (above_srt hu) fun x hx => by
          rcases List.mem_cons.1 hx with rfl | hx
          · obtain ⟨y, hy, e⟩ := hin x hz
            exact ⟨y, above_mem.2 ⟨hy, by omega⟩, e⟩
          · obtain ⟨hx1, hx2⟩ := above_mem.1 hx
            obtain ⟨y, hy, e⟩ := hin x hx1
            exact ⟨y, above_mem.2 ⟨hy, by omega⟩, e⟩
        rw [List.length_cons] at this
        omega
    refine ⟨fun j hj => ?_, fun hc => ?_⟩
    · rw [cut_cnt ha h1 h2, if_neg (by omega), if_neg (by omega)]
    · rw [cut_cnt ha h1 h2, if_neg (by omega)]
      by_cases e : q = p
      · rw [if_pos e]; exact upt_ne ha h1 |> fun h => e ▸ h
      · rw [if_neg e]; exact hc
/-- what stays of two lists, taken together and cut, doesn't hang on whether they were cut ahead of that -/
theorem cut_merge {a b : List Pr} {m : Nat} (ha : Srt a) (pa : Pos a) (hb : Srt b) (pb : Pos b) (hm : 1 ≤ m) : cutN (lputs (cutN a m) (cutN b m)) m = cutN (lputs a b) m := by
  have hu := putAll_srt ha b
  have pu := putAll_pos pa pb
  have ina : ∀ x ∈ a, ∃ y ∈ lputs a b, y.1 = x.1 := fun x hx => cnt_in (by rw [cnt_putAll _ _ _ ha hb]; have := cnt_ne ha pa hx; omega)
  have inb : ∀ x ∈ b, ∃ y ∈ lputs a b, y.1 = x.1 := fun x hx => cnt_in (by rw [cnt_putAll _ _ _ ha hb]; have := cnt_ne hb pb hx; omega)
  by_cases h : (lputs a b).length < m
  · have h1 := len_sub ha hu ina
    have h2 := len_sub hb hu inb
    rw [cut_none (l := a) (by omega), cut_none (l := b) (by omega)]
  · obtain ⟨q, hq, hl⟩ := cut_key hu pu hm (by omega)
    obtain ⟨a1, a2⟩ := cut_beside ha pa hu hm ina hl
    obtain ⟨b1, b2⟩ := cut_beside hb pb hu hm inb hl
    have sa := cut_srt ha pa hm
    have sb := cut_srt hb pb hm
    have hv := putAll_srt sa (cutN b m)
    have pv := putAll_pos (cut_pos ha pa hm) (cut_pos hb pb hm)
    have hqv : cnt (lputs (cutN a m) (cutN b m)) q ≠ 0 := by
      rw [cnt_putAll _ _ _ ha hb] at hq
      rw [cnt_putAll _ _ _ sa sb]
      rcases (by omega : cnt a q ≠ 0 ∨ cnt b q ≠ 0) with h | h
      · have := a2 h; omega
      · have := b2 h; omega
    have ea : above (lputs (cutN a m) (cutN b m)) q = above (lputs a b) q := ext_cnt (above_srt hv) (above_srt hu) (above_pos pv) (above_pos pu) fun j => by
      rw [above_cnt, above_cnt]
      by_cases hj : q < j
      · rw [if_pos hj, if_pos hj, cnt_putAll _ _ _ sa sb, cnt_putAll _ _ _ ha hb, a1 j hj, b1 j hj]
      · rw [if_neg hj, if_neg hj]
    have t1 := above_tot (lputs (cutN a m) (cutN b m)) q
    have t2 := above_tot (lputs a b) q
    rw [tot_putAll, cut_tot ha pa hm, cut_tot hb pb hm, ea] at t1
    rw [tot_putAll] at t2
    rw [cut_at hv hqv (by rw [ea]; exact hl), cut_at hu hq hl, ea, show upt (lputs (cutN a m) (cutN b m)) q = upt (lputs a b) q by omega]
end Go.Proofs.YthfcfmnaiopogaaGreat

/- Places in lists of keys and counts; sums of pairs in any order. -/
namespace Go.Proofs.YthfcfmnaiopogaaGreat

theorem prs_app (a b : List Pr) : prs (a ++ b) = prs a ++ prs b := by simp [prs]
theorem prs_cons (t : Pr) (l : List Pr) : prs (t :: l) = .int .i64 t.1 :: .int .u64 (t.2 : Int) :: prs l := by simp [prs]
theorem prs_one (l : List Pr) : ∀ u ∈ prs l, u.oneCell' = true := by
  intro u hu
  unfold prs at hu
  obtain ⟨t, -, ht⟩ := List.mem_flatMap.1 hu
  simp only [List.mem_cons, List.not_mem_nil, or_false] at ht
  rcases ht with rfl | rfl <;> rfl
theorem prs_take (l : List Pr) (i : Nat) : prs (l.take i) = (prs l).take (i * 2) := by
  induction l generalizing i with
  | nil => simp [prs]
  | cons x l ih =>
    cases i with
    | zero => simp [prs]
    | succ i =>
      rw [List.take_succ_cons, prs_cons, prs_cons, ih, show (i + 1) * 2 = i * 2 + 1 + 1 by omega, List.take_succ_cons, List.take_succ_cons]
theorem prs_drop (l : List Pr) (i : Nat) : prs (l.drop i) = (prs l).drop (i * 2) := by
  induction l generalizing i with
  | nil => simp [prs]
  | cons x l ih =>
    cases i with
    | zero => simp [prs]
    | succ i =>
      rw [List.drop_succ_cons, prs_cons, ih, show (i + 1) * 2 = i * 2 + 1 + 1 by omega, List.drop_succ_cons, List.drop_succ_cons]
theorem prs_set (a : List Pr) (k : Int) (n m : Nat) (b : List Pr) (i : Nat) (hi : a.length = i) : (prs (a ++ (k, n) :: b)).set (i * 2 + 1) (.int .u64 (m : Int)) = prs (a ++ (k, m) :: b) := by
  subst hi
  rw [prs_app, prs_cons, prs_app, prs_cons, List.set_append, if_neg (by rw [prs_len]; omega), prs_len]
  rw [show a.length * 2 + 1 - a.length * 2 = 1 by omega]
  rfl
theorem prs_get (l : List Pr) (j : Nat) (u : Value) (h : (prs l)[j]? = some u) : ∃ i, ∃ hi : i < l.length, (j = i * 2 ∧ u = .int .i64 l[i].1) ∨ (j = i * 2 + 1 ∧ u = .int .u64 (l[i].2 : Int)) := by
  have hj := (List.getElem?_eq_some_iff.1 h).1
  rw [prs_len] at hj
  refine ⟨j / 2, by omega, ?_⟩
  have := prs_at l (j / 2) (by omega)
  rcases (by omega : j = j / 2 * 2 ∨ j = j / 2 * 2 + 1) with e | e
  · refine .inl ⟨e, ?_⟩
    rw [e, this.1] at h
    exact (Option.some.inj h).symm
  · refine .inr ⟨e, ?_⟩
    rw [e, this.2] at h
    exact (Option.some.inj h).symm

/-- where a key belongs: all ahead are less, none behind is -/
theorem put_in {l : List Pr} {k : Int} {n i : Nat} (hi : i < l.length) (hs : Srt l) (h1 : ∀ j, (hj : j < l.length) → j < i → l[j].1 < k) (h2 : l[i].1 = k) : lput l k n = l.take i ++ (k, l[i].2 + n) :: l.drop (i + 1) := by
  induction l generalizing i with
  | nil => simp at hi
  | cons x l ih =>
    cases i with
    | zero =>
      simp only [List.getElem_cons_zero] at h2 ⊢
      rw [lput, if_neg (by omega), if_pos h2]
      rfl
    | succ i =>
      have h0 := h1 0 (by simp) (by omega)
      simp only [List.getElem_cons_zero] at h0
      rw [lput, if_pos h0, ih (by simpa using hi) (srt_cons.1 hs).2 (fun j hj hji => by have := h1 (j + 1) (by simpa using hj) (by omega); simpa using this) (by simpa using h2)]
      simp
theorem put_out {l : List Pr} {k : Int} {n i : Nat} (hi : i ≤ l.length) (h1 : ∀ j, (hj : j < l.length) → j < i → l[j].1 < k) (h2 : ∀ h : i < l.length, k < l[i].1) : lput l k n = l.take i ++ (k, n) :: l.drop i := by
  induction l generalizing i with
  | nil => obtain rfl : i = 0 := by simpa using hi
           simp [lput]
  | cons x l ih =>
    cases i with
    | zero =>
      have := h2 (by simp)
      simp only [List.getElem_cons_zero] at this
      rw [lput, if_neg (by omega), if_neg (by omega)]
      rfl
    | succ i =>
      have h0 := h1 0 (by simp) (by omega)
      simp only [List.getElem_cons_zero] at h0
      rw [lput, if_pos h0, ih (by simpa using hi) (fun j hj hji => by have := h1 (j + 1) (by simpa using hj) (by omega); simpa using this) (fun h => by have := h2 (by simpa using h); simpa using this)]
      simp
theorem bel_take {l : List Pr} {k : Int} {i : Nat} (h1 : ∀ j, (hj : j < l.length) → j < i → l[j].1 < k) (h2 : ∀ j, (hj : j < l.length) → i ≤ j → k ≤ l[j].1) : ltot (l.take i) = bel l k := by
  induction l generalizing i with
  | nil => simp [ltot, bel]
  | cons x l ih =>
    cases i with
    | zero =>
      rw [bel_zero fun y hy => ?_]
      · rfl
      · obtain ⟨j, hj, rfl⟩ := List.mem_iff_getElem.1 hy
        exact h2 j hj (by omega)
    | succ i =>
      have h0 := h1 0 (by simp) (by omega)
      simp only [List.getElem_cons_zero] at h0
      rw [List.take_succ_cons, ltot, bel, if_pos h0, ih (fun j hj hji => by have := h1 (j + 1) (by simpa using hj) (by omega); simpa using this) (fun j hj hji => by have := h2 (j + 1) (by simpa using hj) (by omega); simpa using this)]
theorem upt_take {l : List Pr} {k : Int} {i : Nat} (h1 : ∀ j, (hj : j < l.length) → j < i → l[j].1 ≤ k) (h2 : ∀ j, (hj : j < l.length) → i ≤ j → k < l[j].1) : ltot (l.take i) = upt l k := by
  induction l generalizing i with
  | nil => simp [ltot, upt]
  | cons x l ih =>
    cases i with
    | zero =>
      rw [upt_zero fun y hy => ?_]
      · rfl
      · obtain ⟨j, hj, rfl⟩ := List.mem_iff_getElem.1 hy
        exact h2 j hj (by omega)
    | succ i =>
      have h0 := h1 0 (by simp) (by omega)
      simp only [List.getElem_cons_zero] at h0
      rw [List.take_succ_cons, ltot, upt, if_pos h0, ih (fun j hj hji => by have := h1 (j + 1) (by simpa using hj) (by omega); simpa using this) (fun j hj hji => by have := h2 (j + 1) (by simpa using hj) (by omega); simpa using this)]
theorem bel_le (l : List Pr) (k : Int) : bel l k ≤ ltot l := by
  induction l with
  | nil => exact Nat.le_refl _
  | cons x l ih => rw [bel, ltot]; split <;> omega
theorem upt_le (l : List Pr) (k : Int) : upt l k ≤ ltot l := by
  induction l with
  | nil => exact Nat.le_refl _
  | cons x l ih => rw [upt, ltot]; split <;> omega
/-- keys that stand before greater ones -/
theorem srt_lt {l : List Pr} (hs : Srt l) {i j : Nat} (hi : i < l.length) (hj : j < l.length) (h : i < j) : l[i].1 < l[j].1 := List.pairwise_iff_getElem.1 hs i j hi hj h
theorem srt_le {l : List Pr} (hs : Srt l) {i j : Nat} (hi : i < l.length) (hj : j < l.length) (h : i ≤ j) : l[i].1 ≤ l[j].1 := by
  rcases (by omega : i < j ∨ i = j) with h | rfl
  · exact Int.le_of_lt (srt_lt hs hi hj h)
  · exact Int.le_refl _
/-- a greatest key, or one more, is put behind all -/
theorem put_last {l : List Pr} {k : Int} {n : Nat} (h : ∀ x ∈ l, x.1 < k) : lput l k n = l ++ [(k, n)] := by
  rw [put_out (i := l.length) (Nat.le_refl _) (fun j hj _ => h _ (List.getElem_mem hj)) (fun h => by omega)]
  simp
theorem put_same {l : List Pr} {k : Int} {m n : Nat} (h : ∀ x ∈ l, x.1 < k) : lput (l ++ [(k, m)]) k n = l ++ [(k, m + n)] := by
  induction l with
  | nil => rw [List.nil_append, lput, if_neg (by simp), if_pos rfl]; rfl
  | cons x l ih =>
    rw [List.cons_append, lput, if_pos (h x List.mem_cons_self), ih fun y hy => h y (List.mem_cons_of_mem _ hy)]
    rfl

/-- how often a key stands in pairs in any order -/
def many : List Pr → Int → Nat
  | [], _ => 0
  | x :: r, k => (if x.1 = k then x.2 else 0) + many r k
theorem many_app (a b : List Pr) (k : Int) : many (a ++ b) k = many a k + many b k := by
  induction a with
  | nil => simp [many]
  | cons x a ih => rw [List.cons_append, many, many, ih]; omega
theorem many_perm {a b : List Pr} (h : a.Perm b) (k : Int) : many a k = many b k := by
  induction h with
  | nil => rfl
  | cons x _ ih => rw [many, many, ih]
  | swap x y l => rw [many, many, many, many]; omega
  | trans _ _ h1 h2 => rw [h1, h2]
theorem many_cnt {l : List Pr} (hs : Srt l) (k : Int) : many l k = cnt l k := by
  induction l with
  | nil => rfl
  | cons x r ih =>
    have hs' := srt_cons.1 hs
    rw [many, cnt, ih hs'.2]
    by_cases e : x.1 = k
    · rw [if_pos e, if_pos e, cnt_out fun y hy => by have := hs'.1 y hy; omega]; rfl
    · rw [if_neg e, if_neg e]; omega
theorem cnt_puts (m : List Pr) : ∀ (l : List Pr) (j : Int), Srt l → cnt (lputs l m) j = cnt l j + many m j := by
  induction m with
  | nil => intro l j _; simp [lputs, many]
  | cons x m ih =>
    intro l j hl
    rw [show lputs l (x :: m) = lputs (lput l x.1 x.2) m from rfl, ih _ _ (put_srt hl), cnt_put _ _ _ hl, many]
    by_cases e : x.1 = j
    · rw [if_pos e, if_pos e.symm]; omega
    · rw [if_neg e, if_neg fun h => e h.symm]; omega
/-- pairs in whatever order are counted alike -/
theorem puts_perm {a b : List Pr} (h : a.Perm b) (hp : Pos a) : lputs [] a = lputs [] b := by
  have hq : Pos b := fun x hx => hp x (h.mem_iff.2 hx)
  exact ext_cnt (putAll_srt srt_nil a) (putAll_srt srt_nil b) (putAll_pos pos_nil hp) (putAll_pos pos_nil hq) fun k => by
    rw [cnt_puts a [] k srt_nil, cnt_puts b [] k srt_nil, many_perm h k]
end Go.Proofs.YthfcfmnaiopogaaGreat

/- Places are sought by halves: sort.Search, place; what a list has below a key, and up to it. -/
namespace Go.Proofs.YthfcfmnaiopogaaGreat
open Go.RowKit

def Has (B : Nat) : Prop := ∀ (args : Array Value) (w : World), (callFunc B args).run Tryz.prog w = .ok (.enter B args) w
set_option maxRecDepth 100000 in
set_option maxHeartbeats 1000000 in
theorem search_any (B : Nat) (x y : Value) (p : Nat → Bool) (n : Nat) (w : World) (hB : Has B) (hn : n ≤ 1000000000) (mono : ∀ i j, i ≤ j → j < n → p i = true → p j = true)
    (hf : ∀ h, h < n → ∀ W, Fr S0 w W → Calls Tryz.prog B #[.int .i64 (h : Nat), x, y] W fun e w' => e = .returned (.bool (p h)) ∧ Fr S0 W w') :
    Calls Tryz.prog 163 #[.int .i64 (n : Nat), .func (.func B) #[] #[x, y]] w fun e w' => ∃ i : Nat, e = .returned (.int .i64 (i : Nat)) ∧ i ≤ n ∧ (∀ j, j < i → p j = false) ∧ (∀ j, i ≤ j → j < n → p j = true) ∧ Fr S0 w w' := by
  have HB := Lib.hid hB
  have HM := Lib.hid mono
  have HF := Lib.hid hf
  clear hB mono hf
  go_enter Tryz.func163, Tryz.ntmps163
  go_wp2_with fail
  go_loopw [5, 6, 7] (fun a b _ wr => ∃ i j : Nat, i ≤ j ∧ j ≤ n ∧ a = .int .i64 i ∧ b = .int .i64 j ∧ Hid (∀ k, k < i → p k = false) ∧ Hid (∀ k, j ≤ k → k < n → p k = true) ∧ Hid (Fr S0 w wr)) (fun a b _ _ => (intOf b).toNat - (intOf a).toNat)
  case atStart => exact ⟨0, n, by omega, by omega, rfl, rfl, Lib.hid fun k hk => absurd hk (Nat.not_lt_zero k), Lib.hid fun k h1 h2 => by omega, Lib.hid (Fr.refl _ _)⟩
  case round =>
    obtain ⟨i, j, hij, hjn, rfl, rfl, h1, h2, hfr⟩ := hrel
    by_cases hlt : (i : Int) < (j : Int)
    · obtain ⟨h, hh⟩ : ∃ h, (i + j) / 2 = h := ⟨_, rfl⟩
      have hih : i ≤ h := by omega
      have hhj : h < j := by omega
      have e1 : ((i : Int) + (j : Int)) / 2 ^ 1 = (h : Int) := by omega
      have e2 : ((i : Int) + (j : Int)) / 2 = (h : Int) := by omega
      have hs : (i : Int) + (j : Int) < 9223372036854775808 := by omega
      have hcf := HB.out #[.int .i64 (h : Int), x, y] wr
      have HC := Lib.hid (HF.out h (by omega) wr hfr.out)
      obtain ⟨q, hq⟩ : ∃ q, p h = q := ⟨_, rfl⟩
      rw [hq] at HC
      have HQ := Lib.hid hq
      clear hq hh
      cases q with
      | true =>
        go_wp2_with fail
        refine HC.out.mono ?_
        rintro e w1 ⟨rfl, f1⟩
        have HF1 := Lib.hid (hfr.out.trans0 f1)
        clear HC f1 hcf
        go_wp2_with fail
        go_roundw
        case rel => exact ⟨i, h, by omega, by omega, rfl, rfl, h1, Lib.hid fun k hk hkn => HM.out h k hk hkn HQ.out, HF1⟩
        case measure => simp [intOf]; omega
      | false =>
        go_wp2_with fail
        refine HC.out.mono ?_
        rintro e w1 ⟨rfl, f1⟩
        have HF1 := Lib.hid (hfr.out.trans0 f1)
        clear HC f1 hcf
        go_wp2_with fail
        go_roundw
        case rel => exact ⟨h + 1, j, by omega, by omega, by go_num, rfl, Lib.hid (fun k hk => by
            by_cases e : p k = true
            · have := HM.out k h (by omega) (by omega) e
              rw [HQ.out] at this
              cases this
            · simpa using e), h2, HF1⟩
        case measure => simp [intOf]; omega
    · obtain rfl : i = j := by omega
      go_wp2_with fail
      go_ret
      exact ⟨i, rfl, hjn, h1.out, h2.out, hfr.out⟩

/-- a closure that holds a key against another one -/
def Asks (C : Nat) (k : Int) (q : Int → Bool) : Prop := ∀ (b : Nat) (x : Int) (W : World), W.cell? ⟨b, 0, none⟩ = some (.int .i64 k) → Calls Tryz.prog C #[.int .i64 x, .pointer (some ⟨b, 0, none⟩)] W fun e w' => e = .returned (.bool (q x)) ∧ W = w'
/-- what is seen of a list: its row -/
def Seen (w : World) (g : Nat) (l : List Pr) : Prop := ∃ p n c, w.cell? ⟨g, 0, none⟩ = some (.slice p n c) ∧ PrI w p l ∧ l.length = n ∧ Srt l ∧ n ≤ 2097153
theorem Seen.fr0 {w w' : World} {g : Nat} {l : List Pr} (s : Seen w g l) (f : Fr S0 w w') : Seen w' g l := let ⟨p, n, c, h1, h2, h3⟩ := s; ⟨p, n, c, f.cell h1 (fun h => h), h2.fr0 f, h3⟩

section
variable (C b g bg bf : Nat) (k : Int) (q : Int → Bool) (l : List Pr) (w : World)
end
end Go.Proofs.YthfcfmnaiopogaaGreat

/- The document's answers of layer 14: Below, Key, Cut. -/
namespace Go.Proofs.YthfcfmnaiopogaaGreat
open Go.RowKit

/-- what is below a key, or up to it -/
def belB (l : List Pr) (k : Int) (too : Bool) : Nat := if too then upt l k else bel l k
theorem belB_take {l : List Pr} {k : Int} {too : Bool} {j : Nat} (h : j < l.length) : belB (l.take (j + 1)) k too = belB (l.take j) k too + if l[j].1 < k ∨ (too = true ∧ l[j].1 = k) then l[j].2 else 0 := by
  rw [List.take_succ_eq_append_getElem h]
  have e1 : ∀ d : List Pr, bel (d ++ [l[j]]) k = bel d k + if l[j].1 < k then l[j].2 else 0 := fun d => by
    induction d with
    | nil => simp [bel]
    | cons x d ih => rw [List.cons_append, bel, bel, ih]; omega
  have e2 : ∀ d : List Pr, upt (d ++ [l[j]]) k = upt d k + if l[j].1 ≤ k then l[j].2 else 0 := fun d => by
    induction d with
    | nil => simp [upt]
    | cons x d ih => rw [List.cons_append, upt, upt, ih]; omega
  unfold belB
  cases too with
  | true =>
    rw [if_pos rfl, if_pos rfl, e2]
    by_cases h1 : l[j].1 ≤ k
    · rw [if_pos h1, if_pos (by
        rcases (by omega : l[j].1 < k ∨ l[j].1 = k) with h | h
        · exact .inl h
        · exact .inr ⟨rfl, h⟩)]
    · rw [if_neg h1, if_neg (by rintro (h | ⟨-, h⟩) <;> omega)]
  | false =>
    rw [if_neg (by decide), if_neg (by decide), e1]
    by_cases h1 : l[j].1 < k
    · rw [if_pos h1, if_pos (.inl h1)]
    · rw [if_neg h1, if_neg (by rintro (h | ⟨h, -⟩); exact h1 h; cases h)]
theorem belB_le (l : List Pr) (k : Int) (too : Bool) : belB l k too ≤ ltot l := by
  unfold belB
  split
  · exact upt_le _ _
  · exact bel_le _ _

section
variable (p : Option Addr) (n c : Nat) (k : Int) (l : List Pr) (w : World)
set_option maxRecDepth 100000 in
set_option maxHeartbeats 2000000 in
theorem rbelow_any (too : Bool) (h : PrI w p l) (hn : l.length = n) (ht : ltot l < 18446744073709551616) :
    Calls Tryz.prog 68 #[.slice p n c, .int .i64 k, .bool too] w fun e w' => e = .returned (.int .u64 (belB l k too : Nat)) ∧ Fr S0 w w' := by
  have H := Lib.hid h
  have HN := Lib.hid hn
  have HT := Lib.hid ht
  have hlen := h.len
  rw [hn] at hlen
  unfold maxLen at hlen
  clear h hn ht
  go_enter Tryz.func68, Tryz.ntmps68
  go_wp2_with fail
  go_loopw [7, 8] (fun s i wr => ∃ j T : Nat, j ≤ n ∧ i = .int .i64 j ∧ s = .int .u64 T ∧ Hid (belB (l.take j) k too = T) ∧ Hid (Fr S0 w wr)) (fun _ i _ => n - (intOf i).toNat)
  case atStart => exact ⟨0, 0, by omega, rfl, rfl, Lib.hid (by cases too <;> rfl), Lib.hid (Fr.refl _ _)⟩
  case round =>
    obtain ⟨j, T, hj, rfl, rfl, hT, hfr⟩ := hrel
    by_cases hjn : (j : Int) < (n : Int)
    · have hjl : j < l.length := by rw [HN.out]; omega
      obtain ⟨b, o, rfl, c0, c1⟩ := (H.out.fr0 hfr.out).at j hjl
      have HD := Lib.hid (belB_take (k := k) (too := too) hjl)
      have hle := belB_le (l.take (j + 1)) k too
      have hle2 := tot_take_le l (j + 1)
      obtain ⟨⟨tk, tn⟩, ht⟩ : ∃ t, l[j] = t := ⟨_, rfl⟩
      rw [ht] at c0 c1 HD
      simp only at c0 c1 HD
      rw [hT.out] at HD
      have HTT := HT.out
      by_cases hlt : tk < k
      · have HDD : Hid (belB (l.take (j + 1)) k too = T + tn) := Lib.hid (by rw [HD.out, if_pos (.inl hlt)])
        have hb : T + tn < 18446744073709551616 := by rw [← HDD.out]; omega
        clear hT HD ht hle hle2 HTT
        go_wp2_with fail
        go_roundw
        case rel => exact ⟨j + 1, T + tn, by omega, by go_num, by go_num, HDD, hfr⟩
        case measure => simp [intOf]; omega
      · by_cases heq : too = true ∧ tk = k
        · obtain ⟨rfl, rfl⟩ := heq
          have HDD : Hid (belB (l.take (j + 1)) tk true = T + tn) := Lib.hid (by rw [HD.out, if_pos (.inr ⟨rfl, rfl⟩)])
          have hb : T + tn < 18446744073709551616 := by rw [← HDD.out]; omega
          clear hT HD ht hle hle2 HTT hlt
          go_wp2_with fail
          go_roundw
          case rel => exact ⟨j + 1, T + tn, by omega, by go_num, by go_num, HDD, hfr⟩
          case measure => simp [intOf]; omega
        · have HDD : Hid (belB (l.take (j + 1)) k too = T) := Lib.hid (by rw [HD.out, if_neg (by rintro (h | h); exact hlt h; exact heq h)]; rfl)
          have hd : decide (tk < k) = false := decide_eq_false hlt
          cases too with
          | false =>
            clear hT HD ht hle hle2 HTT hlt heq
            go_wp2_with fail
            go_roundw
            case rel => exact ⟨j + 1, T, by omega, by go_num, rfl, HDD, hfr⟩
            case measure => simp [intOf]; omega
          | true =>
            have hne : (tk == k) = false := by rw [beq_eq_false_iff_ne]; intro e; exact heq ⟨rfl, e⟩
            clear hT HD ht hle hle2 HTT hlt heq
            go_wp2_with fail
            go_roundw
            case rel => exact ⟨j + 1, T, by omega, by go_num, rfl, HDD, hfr⟩
            case measure => simp [intOf]; omega
    · obtain rfl : j = n := by omega
      have HV : Hid (belB l k too = T) := Lib.hid (by rw [← hT.out, ← HN.out, List.take_length])
      clear hT
      go_wp2_with fail
      go_ret
      exact ⟨by first | (rw [HV.out]; done) | (rw [HV.out]; rfl), hfr.out⟩
set_option maxRecDepth 100000 in
set_option maxHeartbeats 2000000 in
theorem rkey_any (r : Nat) (h : PrI w p l) (hn : l.length = n) (hs : Srt l) (h1 : 1 ≤ r) (h2 : r ≤ ltot l) (ht : ltot l < 18446744073709551616) :
    Calls Tryz.prog 23 #[.slice p n c, .int .u64 (r : Nat)] w fun e w' => e = .returned (.int .i64 (keyW l r)) ∧ Fr S0 w w' := by
  have H := Lib.hid h
  have HN := Lib.hid hn
  have HT := Lib.hid ht
  have HS := Lib.hid hs
  have HK := Lib.hid (keyW_rank hs h1 h2)
  have HR := Lib.hid (And.intro h1 h2)
  have hlen := h.len
  rw [hn] at hlen
  unfold maxLen at hlen
  clear h hn ht hs h1 h2
  go_enter Tryz.func23, Tryz.ntmps23
  go_wp2_with fail
  go_loopw [5] (fun i wr => ∃ j : Nat, j ≤ n ∧ i = .int .i64 j ∧ Hid (∀ x, (hx : x < l.length) → x < j → upt l l[x].1 < r) ∧ Hid (Fr S0 w wr)) (fun i _ => n - (intOf i).toNat)
  case atStart => exact ⟨0, by omega, rfl, Lib.hid (fun _ _ h => by omega), Lib.hid (Fr.refl _ _)⟩
  case round =>
    obtain ⟨j, hj, rfl, hU, hfr⟩ := hrel
    by_cases hjn : (j : Int) < (n : Int)
    · have hjl : j < l.length := by rw [HN.out]; omega
      have hpr := H.out.fr0 hfr.out
      obtain ⟨b, o, rfl, c0, -⟩ := hpr.at j hjl
      have HB := Lib.hid (rbelow_any (some ⟨b, o, none⟩) n c l[j].1 l wr true hpr HN.out HT.out)
      have HC : Hid (∀ W, Fr S0 wr W → W.cell? ⟨b, o + j * 2, none⟩ = some (.int .i64 l[j].1)) := Lib.hid fun W f => f.cell c0 (fun h => h)
      have hu : belB l l[j].1 true = upt l l[j].1 := if_pos rfl
      rw [hu] at HB
      have HLE : Hid (r ≤ upt l l[j].1 → keyW l r = l[j].1) := Lib.hid fun hle => by
        obtain ⟨⟨x, hx, ex⟩, k1, k2⟩ := HK.out
        obtain ⟨i, hi, rfl⟩ := List.mem_iff_getElem.1 hx
        rcases (by omega : i < j ∨ i = j ∨ j < i) with h | rfl | h
        · have := hU.out i hi h
          rw [ex] at this
          omega
        · exact ex.symm
        · have h3 := srt_lt HS.out hjl hi h
          have h4 := bel_upt l h3
          rw [ex] at h4
          omega
      obtain ⟨tk, ht⟩ : ∃ t, l[j].1 = t := ⟨_, rfl⟩
      obtain ⟨V, hV⟩ : ∃ V, upt l tk = V := ⟨_, rfl⟩
      rw [ht] at c0 HB HLE HC
      rw [hV] at HB HLE
      by_cases hle : r ≤ V
      · have HV := Lib.hid (HLE.out hle)
        clear hpr hu ht hV HLE hU
        go_wp2_with fail
        refine HB.out.mono ?_
        rintro e w1 ⟨rfl, f1⟩
        have c0 := HC.out w1 f1
        have HF := Lib.hid (hfr.out.trans0 f1)
        clear f1 HB HC
        go_wp2_with fail
        go_ret
        exact ⟨by rw [HV.out]; rfl, HF.out⟩
      · have HU2 : Hid (∀ x, (hx : x < l.length) → x < j + 1 → upt l l[x].1 < r) := Lib.hid fun x hx hxj => by
          rcases (by omega : x < j ∨ x = j) with h | rfl
          · exact hU.out x hx h
          · rw [ht, hV]; omega
        have hd : decide (r ≤ V) = false := decide_eq_false hle
        clear hpr hu ht hV HLE hU hle
        go_wp2_with fail
        refine HB.out.mono ?_
        rintro e w1 ⟨rfl, f1⟩
        have HF := Lib.hid (hfr.out.trans0 f1)
        clear f1 HB HC
        go_wp2_with fail
        go_roundw
        case rel => exact ⟨j + 1, by omega, by go_num, HU2, HF⟩
        case measure => simp [intOf]; omega
    · exfalso
      obtain ⟨⟨x, hx, ex⟩, k1, k2⟩ := HK.out
      obtain ⟨i, hi, rfl⟩ := List.mem_iff_getElem.1 hx
      have := hU.out i hi (by have := HN.out; omega)
      rw [ex] at this
      omega
end
end Go.Proofs.YthfcfmnaiopogaaGreat

/- Sums of counts by rising keys: what a table keeps. -/
namespace Go.Proofs.YthfcfmnaiopogaaGreat

/-- each key with the rank of its last thing, when s things came ahead -/
def cums : Nat → List Pr → List Pr
  | _, [] => []
  | s, x :: t => (x.1, s + x.2) :: cums (s + x.2) t
/-- a table's steps -/
def stp (l : List Pr) : List Pr := cums 0 l
theorem cums_len : ∀ (s : Nat) (l : List Pr), (cums s l).length = l.length
  | _, [] => rfl
  | s, x :: t => by rw [cums, List.length_cons, List.length_cons, cums_len]
theorem cums_at : ∀ (s : Nat) (l : List Pr) (i : Nat) (h : i < l.length), (cums s l)[i]'(by rw [cums_len]; exact h) = (l[i].1, s + ltot (l.take (i + 1)))
  | s, x :: t, 0, _ => by simp [cums, ltot]
  | s, x :: t, i + 1, h => by
    have := cums_at (s + x.2) t i (by simpa using h)
    simp only [cums, List.getElem_cons_succ, List.take_succ_cons, ltot]
    rw [this, Nat.add_assoc]
theorem cums_snoc : ∀ (s : Nat) (l : List Pr) (x : Pr), cums s (l ++ [x]) = cums s l ++ [(x.1, s + ltot l + x.2)]
  | s, [], x => by simp [cums, ltot]
  | s, y :: t, x => by
    rw [List.cons_append, cums, cums_snoc, cums, ltot, List.cons_append, Nat.add_assoc s y.2]
theorem stp_len (l : List Pr) : (stp l).length = l.length := cums_len 0 l
theorem stp_at (l : List Pr) (i : Nat) (h : i < l.length) : (stp l)[i]'(by rw [stp_len]; exact h) = (l[i].1, ltot (l.take (i + 1))) := by
  have := cums_at 0 l i h
  rw [Nat.zero_add] at this
  exact this
theorem stp_snoc (l : List Pr) (x : Pr) : stp (l ++ [x]) = stp l ++ [(x.1, ltot l + x.2)] := by
  have := cums_snoc 0 l x
  rw [Nat.zero_add] at this
  exact this

/-- are pairs a table's? -/
structure Tb (l : List Pr) : Prop where
  srt : Srt l
  pos : Pos l
  tot : ltot l ≤ 4611686018427387904
theorem Tb.nil : Tb [] := ⟨srt_nil, pos_nil, by decide⟩
theorem srt_snoc {l : List Pr} {x : Pr} : Srt (l ++ [x]) ↔ Srt l ∧ ∀ y ∈ l, y.1 < x.1 := by
  unfold Srt
  rw [List.pairwise_append]
  constructor
  · rintro ⟨h1, -, h3⟩
    exact ⟨h1, fun y hy => h3 y hy x (by simp)⟩
  · rintro ⟨h1, h2⟩
    exact ⟨h1, List.pairwise_singleton _ _, fun y hy z hz => by obtain rfl := List.mem_singleton.1 hz; exact h2 y hy⟩
theorem pos_snoc {l : List Pr} {x : Pr} : Pos (l ++ [x]) ↔ Pos l ∧ 0 < x.2 := by
  unfold Pos
  constructor
  · exact fun h => ⟨fun y hy => h y (by simp [hy]), h x (by simp)⟩
  · rintro ⟨h1, h2⟩ y hy
    rcases List.mem_append.1 hy with h | h
    · exact h1 y h
    · obtain rfl := List.mem_singleton.1 h; exact h2
theorem tot_snoc (l : List Pr) (x : Pr) : ltot (l ++ [x]) = ltot l + x.2 := by
  induction l with
  | nil => simp [ltot]
  | cons y l ih => rw [List.cons_append, ltot, ltot, ih]; omega
/-- a key behind the last one is behind all -/
theorem srt_last {l : List Pr} {k : Int} (hs : Srt l) (h : ∀ (hl : 0 < l.length), (l[l.length - 1]'(by omega)).1 < k) : ∀ y ∈ l, y.1 < k := by
  intro y hy
  obtain ⟨i, hi, rfl⟩ := List.mem_iff_getElem.1 hy
  have h1 := h (by omega)
  rcases (by omega : i = l.length - 1 ∨ i < l.length - 1) with rfl | h2
  · exact h1
  · have := List.pairwise_iff_getElem.1 hs i (l.length - 1) hi (by omega) h2
    omega
theorem Tb.snoc {l : List Pr} {x : Pr} (h : Tb l) (hk : ∀ (hl : 0 < l.length), (l[l.length - 1]'(by omega)).1 < x.1) (h0 : 0 < x.2) (ht : x.2 ≤ 4611686018427387904 - ltot l) : Tb (l ++ [x]) :=
  ⟨srt_snoc.2 ⟨h.srt, srt_last h.srt hk⟩, pos_snoc.2 ⟨h.pos, h0⟩, by have := h.tot; rw [tot_snoc]; omega⟩
/-- a beginning of a table is one -/
theorem Tb.of_app {l m : List Pr} (h : Tb (l ++ m)) : Tb l :=
  ⟨(List.pairwise_append.1 h.srt).1, fun x hx => h.pos x (by simp [hx]), by have := h.tot; rw [tot_app] at this; omega⟩
theorem Tb.last {l : List Pr} {x : Pr} (h : Tb (l ++ [x])) : (∀ (hl : 0 < l.length), (l[l.length - 1]'(by omega)).1 < x.1) ∧ 0 < x.2 ∧ x.2 ≤ 4611686018427387904 - ltot l := by
  refine ⟨fun hl => (srt_snoc.1 h.srt).2 _ (List.getElem_mem _), (pos_snoc.1 h.pos).2, ?_⟩
  have := h.tot
  rw [tot_snoc] at this
  omega
theorem tot_zero {l : List Pr} (h : Pos l) : ltot l = 0 ↔ l = [] := by
  constructor
  · intro e
    cases l with
    | nil => rfl
    | cons x t => have := (pos_cons.1 h).1; rw [ltot] at e; omega
  · rintro rfl; rfl

/-- the first i things' sum -/
def ahd (l : List Pr) (i : Nat) : Nat := ltot (l.take i)
theorem ahd_zero (l : List Pr) : ahd l 0 = 0 := rfl
theorem ahd_all (l : List Pr) : ahd l l.length = ltot l := by unfold ahd; rw [List.take_length]
theorem ahd_le (l : List Pr) (i : Nat) : ahd l i ≤ ltot l := tot_take_le l i
theorem ahd_succ {l : List Pr} {i : Nat} (h : i < l.length) : ahd l (i + 1) = ahd l i + l[i].2 := tot_take h
theorem ahd_mono (l : List Pr) {i j : Nat} (h : i ≤ j) : ahd l i ≤ ahd l j := by
  have := tot_take_le (l.take j) i
  rw [List.take_take, Nat.min_eq_left h] at this
  exact this
theorem bel_app (a b : List Pr) (k : Int) : bel (a ++ b) k = bel a k + bel b k := by
  induction a with
  | nil => simp [bel]
  | cons x a ih => rw [List.cons_append, bel, bel, ih]; omega
theorem upt_app (a b : List Pr) (k : Int) : upt (a ++ b) k = upt a k + upt b k := by
  induction a with
  | nil => simp [upt]
  | cons x a ih => rw [List.cons_append, upt, upt, ih]; omega
theorem bel_all' {l : List Pr} {k : Int} (h : ∀ x ∈ l, x.1 < k) : bel l k = ltot l := by
  induction l with
  | nil => rfl
  | cons x r ih =>
    rw [bel, ltot, if_pos (h x List.mem_cons_self), ih fun y hy => h y (List.mem_cons_of_mem _ hy)]
theorem upt_all' {l : List Pr} {k : Int} (h : ∀ x ∈ l, x.1 ≤ k) : upt l k = ltot l := by
  induction l with
  | nil => rfl
  | cons x r ih =>
    rw [upt, ltot, if_pos (h x List.mem_cons_self), ih fun y hy => h y (List.mem_cons_of_mem _ hy)]
/-- what is up to the key at i -/
theorem upt_at {l : List Pr} (hs : Srt l) {i : Nat} (h : i < l.length) : upt l l[i].1 = ahd l (i + 1) := by
  unfold ahd
  have e : l = l.take (i + 1) ++ l.drop (i + 1) := (List.take_append_drop _ _).symm
  obtain ⟨k, hk⟩ : ∃ k, l[i].1 = k := ⟨_, rfl⟩
  rw [hk]
  conv => lhs; rw [e]
  rw [upt_app, upt_all' (l := l.take (i + 1)), upt_zero (l := l.drop (i + 1))]
  · rfl
  · intro x hx
    obtain ⟨j, hj, rfl⟩ := List.mem_iff_getElem.1 hx
    rw [List.getElem_drop, ← hk]
    exact List.pairwise_iff_getElem.1 hs i _ h _ (by omega)
  · intro x hx
    obtain ⟨j, hj, rfl⟩ := List.mem_iff_getElem.1 hx
    rw [List.getElem_take, ← hk]
    have hj' : j < i + 1 := by rw [List.length_take] at hj; omega
    rcases (by omega : j = i ∨ j < i) with rfl | g
    · exact Int.le_refl _
    · exact Int.le_of_lt (List.pairwise_iff_getElem.1 hs j i _ h g)
theorem bel_at {l : List Pr} (hs : Srt l) {i : Nat} (h : i < l.length) : bel l l[i].1 = ahd l i := by
  unfold ahd
  have e : l = l.take i ++ l.drop i := (List.take_append_drop _ _).symm
  obtain ⟨k, hk⟩ : ∃ k, l[i].1 = k := ⟨_, rfl⟩
  rw [hk]
  conv => lhs; rw [e]
  rw [bel_app, bel_all' (l := l.take i), bel_zero (l := l.drop i)]
  · rfl
  · intro x hx
    obtain ⟨j, hj, rfl⟩ := List.mem_iff_getElem.1 hx
    rw [List.getElem_drop, ← hk]
    rcases (by omega : j = 0 ∨ 0 < j) with rfl | g
    · exact Int.le_refl _
    · exact Int.le_of_lt (List.pairwise_iff_getElem.1 hs i _ h _ (by omega))
  · intro x hx
    obtain ⟨j, hj, rfl⟩ := List.mem_iff_getElem.1 hx
    rw [List.getElem_take, ← hk]
    exact List.pairwise_iff_getElem.1 hs j i _ h (by rw [List.length_take] at hj; omega)
/-- the first place whose sum isn't below a rank has that rank's key -/
theorem key_place {l : List Pr} {r i : Nat} (hs : Srt l) (h1 : 1 ≤ r) (h2 : r ≤ ltot l) (hi : i < l.length) (hl : ahd l i < r) (hu : r ≤ ahd l (i + 1)) : keyW l r = l[i].1 :=
  keyW_only hs h1 h2 (by rw [bel_at hs hi]; exact hl) (by rw [upt_at hs hi]; exact hu)
/-- a place among rising keys -/
theorem bel_place {l : List Pr} {k : Int} {i : Nat} (hi : i ≤ l.length) (hl : ∀ j, (h : j < l.length) → j < i → l[j].1 < k) (hu : ∀ j, (h : j < l.length) → i ≤ j → k ≤ l[j].1) : ahd l i = bel l k := by
  unfold ahd
  conv => rhs; rw [(List.take_append_drop i l).symm]
  rw [bel_app, bel_all' (l := l.take i), bel_zero (l := l.drop i)]
  · rfl
  · intro x hx
    obtain ⟨j, hj, rfl⟩ := List.mem_iff_getElem.1 hx
    rw [List.getElem_drop]
    exact hu _ _ (by omega)
  · intro x hx
    obtain ⟨j, hj, rfl⟩ := List.mem_iff_getElem.1 hx
    rw [List.getElem_take]
    exact hl j _ (by rw [List.length_take] at hj; omega)
theorem upt_place {l : List Pr} {k : Int} {i : Nat} (hi : i ≤ l.length) (hl : ∀ j, (h : j < l.length) → j < i → l[j].1 ≤ k) (hu : ∀ j, (h : j < l.length) → i ≤ j → k < l[j].1) : ahd l i = upt l k := by
  unfold ahd
  conv => rhs; rw [(List.take_append_drop i l).symm]
  rw [upt_app, upt_all' (l := l.take i), upt_zero (l := l.drop i)]
  · rfl
  · intro x hx
    obtain ⟨j, hj, rfl⟩ := List.mem_iff_getElem.1 hx
    rw [List.getElem_drop]
    exact hu _ _ (by omega)
  · intro x hx
    obtain ⟨j, hj, rfl⟩ := List.mem_iff_getElem.1 hx
    rw [List.getElem_take]
    exact hl j _ (by rw [List.length_take] at hj; omega)
/-- a greater rank has no lesser key -/
theorem keyW_mono {l : List Pr} {r s : Nat} (hs : Srt l) (h1 : 1 ≤ r) (h : r ≤ s) (h2 : s ≤ ltot l) : keyW l r ≤ keyW l s := by
  obtain ⟨-, a1, a2⟩ := keyW_rank hs h1 (Nat.le_trans h h2)
  obtain ⟨-, b1, b2⟩ := keyW_rank hs (Nat.le_trans h1 h) h2
  rcases Int.lt_or_le (keyW l s) (keyW l r) with g | g
  · have := bel_upt l g
    omega
  · exact g

/-- the first of the pairs that are counted most often -/
def mst : Pr → List Pr → Pr
  | b, [] => b
  | b, x :: t => mst (if b.2 < x.2 then x else b) t
theorem mst_snoc : ∀ (b : Pr) (l : List Pr) (x : Pr), mst b (l ++ [x]) = if (mst b l).2 < x.2 then x else mst b l
  | b, [], x => rfl
  | b, y :: t, x => by rw [List.cons_append, mst, mst_snoc, mst]
theorem mst_pos : ∀ (b : Pr) (l : List Pr), b.2 ≤ (mst b l).2
  | _, [] => Nat.le_refl _
  | b, x :: t => by
    have := mst_pos (if b.2 < x.2 then x else b) t
    rw [mst]
    split at this
    · rename_i h; rw [if_pos h]; omega
    · rename_i h; rw [if_neg h]; exact this
/-- begun with nothing -/
theorem mst_zero {x : Pr} {t : List Pr} (h : 0 < x.2) : mst (0, 0) (x :: t) = mst x t := by
  rw [mst, if_pos h]
end Go.Proofs.YthfcfmnaiopogaaGreat
