/- DnMath, ScMath -/
import Derived.Test.YtaemgflhgdlmiaaGreatPw1
import Derived.WalkKit
import Derived.WalkSpells
import Derived.WalkLawsBesides
import Derived.Deep.QuietTactic
import Derived.BigQuiet
import Derived.RegionTactic
import Derived.Deep.AppendLies
import Derived.Deep.RegionLaw
import Derived.Laws.ResultCell
import Derived.Laws.EntriesVeiled
import Derived.Lib.Hide
import Derived.Test.YtaemgflhgdlmiaaGreatRows
set_option maxRecDepth 100000
set_option maxHeartbeats 8000000
namespace Go.Proofs.YtaemgflhgdlmiaaGreat
abbrev Pr := Int × Nat
def cnt : List Pr → Int → Nat
  | [], _ => 0
  | x :: r, j => if x.1 = j then x.2 else cnt r j
def ltot : List Pr → Nat
  | [] => 0
  | x :: r => x.2 + ltot r
def lput : List Pr → Int → Nat → List Pr
  | [], k, n => [(k, n)]
  | x :: r, k, n => if x.1 < k then x :: lput r k n else if x.1 = k then (k, x.2 + n) :: r else (k, n) :: x :: r
def lputs (l m : List Pr) : List Pr := m.foldl (fun a x => lput a x.1 x.2) l
def Srt (l : List Pr) : Prop := l.Pairwise fun a b => a.1 < b.1
def Pos (l : List Pr) : Prop := ∀ x ∈ l, 0 < x.2
theorem srt_nil : Srt [] := List.Pairwise.nil
theorem srt_cons {x : Pr} {r : List Pr} : Srt (x :: r) ↔ (∀ y ∈ r, x.1 < y.1) ∧ Srt r := List.pairwise_cons
theorem pos_nil : Pos [] := fun _ h => by cases h
theorem pos_cons {x : Pr} {r : List Pr} : Pos (x :: r) ↔ 0 < x.2 ∧ Pos r := by simp [Pos]
theorem cnt_out : ∀ {l : List Pr} {k : Int}, (∀ x ∈ l, x.1 ≠ k) → cnt l k = 0
  | [], _, _ => rfl
  | x :: r, k, h => by
    rw [cnt, if_neg (h x List.mem_cons_self)]
    exact cnt_out fun y hy => h y (List.mem_cons_of_mem _ hy)
theorem cnt_in : ∀ {l : List Pr} {k : Int}, cnt l k ≠ 0 → ∃ x ∈ l, x.1 = k
  | [], _, h => absurd rfl h
  | x :: r, k, h => by
    rw [cnt] at h
    by_cases e : x.1 = k
    · exact ⟨x, List.mem_cons_self, e⟩
    · rw [if_neg e] at h
      obtain ⟨y, hy, e⟩ := cnt_in h
      exact ⟨y, List.mem_cons_of_mem _ hy, e⟩
theorem cnt_mem : ∀ {l : List Pr}, Srt l → ∀ {x : Pr}, x ∈ l → cnt l x.1 = x.2
  | y :: r, hs, x, hx => by
    rw [srt_cons] at hs
    rw [cnt]
    rcases List.mem_cons.1 hx with rfl | hx
    · rw [if_pos rfl]
    · have := hs.1 x hx
      rw [if_neg (by omega)]
      exact cnt_mem hs.2 hx
theorem cnt_ne {l : List Pr} (hs : Srt l) (hp : Pos l) {x : Pr} (hx : x ∈ l) : cnt l x.1 ≠ 0 := by
  rw [cnt_mem hs hx]
  have := hp x hx
  omega
theorem cnt_tot : ∀ (l : List Pr) (k : Int), cnt l k ≤ ltot l
  | [], _ => Nat.le_refl _
  | x :: r, k => by
    rw [cnt, ltot]
    have := cnt_tot r k
    split <;> omega
theorem put_mem : ∀ {l : List Pr} {k : Int} {n : Nat} {x : Pr}, x ∈ lput l k n → x.1 = k ∨ x ∈ l
  | [], k, n, x, h => by
    rw [lput] at h
    obtain rfl := List.mem_singleton.1 h
    exact .inl rfl
  | y :: r, k, n, x, h => by
    rw [lput] at h
    split at h
    · rcases List.mem_cons.1 h with rfl | h
      · exact .inr List.mem_cons_self
      · exact (put_mem h).imp id fun h => List.mem_cons_of_mem _ h
    · split at h
      · rcases List.mem_cons.1 h with rfl | h
        · exact .inl rfl
        · exact .inr (List.mem_cons_of_mem _ h)
      · rcases List.mem_cons.1 h with rfl | h
        · exact .inl rfl
        · exact .inr h
theorem put_srt : ∀ {l : List Pr} {k : Int} {n : Nat}, Srt l → Srt (lput l k n)
  | [], k, n, _ => by rw [lput]; exact List.pairwise_singleton _ _
  | y :: r, k, n, h => by
    have h' := srt_cons.1 h
    rw [lput]
    split
    · rename_i hy
      refine srt_cons.2 ⟨fun z hz => ?_, put_srt h'.2⟩
      rcases put_mem hz with e | hz
      · rw [e]; exact hy
      · exact h'.1 z hz
    · split
      · rename_i _ e
        exact srt_cons.2 ⟨fun z hz => by have := h'.1 z hz; simp only; omega, h'.2⟩
      · refine srt_cons.2 ⟨fun z hz => ?_, h⟩
        rcases List.mem_cons.1 hz with rfl | hz
        · simp only; omega
        · have := h'.1 z hz
          simp only; omega
theorem put_pos : ∀ {l : List Pr} {k : Int} {n : Nat}, Pos l → 0 < n → Pos (lput l k n)
  | [], k, n, _, hn => by rw [lput]; exact pos_cons.2 ⟨hn, pos_nil⟩
  | y :: r, k, n, h, hn => by
    have h' := pos_cons.1 h
    rw [lput]
    split
    · exact pos_cons.2 ⟨h'.1, put_pos h'.2 hn⟩
    · split
      · exact pos_cons.2 ⟨by have := h'.1; simp only; omega, h'.2⟩
      · exact pos_cons.2 ⟨hn, h⟩
theorem tot_put : ∀ (l : List Pr) (k : Int) (n : Nat), ltot (lput l k n) = ltot l + n
  | [], k, n => by simp [lput, ltot]
  | y :: r, k, n => by
    have ih := tot_put r k n
    rw [lput]
    split
    · rw [ltot, ih, ltot]; omega
    · split
      · rw [ltot, ltot]; simp only; omega
      · rw [ltot, ltot]; simp only; omega
theorem cnt_put : ∀ {l : List Pr} (k : Int) (n : Nat) (j : Int), Srt l → cnt (lput l k n) j = cnt l j + if j = k then n else 0
  | [], k, n, j, _ => by
    rw [lput, cnt, cnt]
    simp only
    by_cases e : k = j
    · rw [if_pos e, if_pos e.symm]; omega
    · rw [if_neg e, if_neg fun h => e h.symm]; rfl
  | y :: r, k, n, j, h => by
    have h' := srt_cons.1 h
    have ih := cnt_put k n j h'.2
    rw [lput]
    by_cases h1 : y.1 < k
    · rw [if_pos h1, cnt, cnt]
      by_cases e : y.1 = j
      · rw [if_pos e, if_pos e, if_neg (by omega)]; rfl
      · rw [if_neg e, if_neg e, ih]
    · rw [if_neg h1]
      by_cases h2 : y.1 = k
      · rw [if_pos h2, cnt, cnt]
        simp only
        by_cases e : k = j
        · rw [if_pos e, if_pos (by omega), if_pos e.symm]
        · rw [if_neg e, if_neg (by omega), if_neg (by omega)]; rfl
      · rw [if_neg h2, cnt]
        simp only
        by_cases e : k = j
        · rw [if_pos e, if_pos e.symm]
          have : cnt (y :: r) j = 0 := cnt_out fun z hz => by
            rcases List.mem_cons.1 hz with rfl | hz
            · omega
            · have := h'.1 z hz; omega
          omega
        · rw [if_neg e, if_neg fun h => e h.symm]; rfl
theorem ext_cnt : ∀ {l m : List Pr}, Srt l → Srt m → Pos l → Pos m → (∀ k, cnt l k = cnt m k) → l = m
  | [], [], _, _, _, _, _ => rfl
  | [], y :: s, _, _, _, hq, h => by
    have := h y.1
    rw [cnt, cnt, if_pos rfl] at this
    have := (pos_cons.1 hq).1
    omega
  | x :: r, [], _, _, hp, _, h => by
    have := h x.1
    rw [cnt, cnt, if_pos rfl] at this
    have := (pos_cons.1 hp).1
    omega
  | x :: r, y :: s, hs, ht, hp, hq, h => by
    have hs' := srt_cons.1 hs
    have ht' := srt_cons.1 ht
    have hp' := pos_cons.1 hp
    have hq' := pos_cons.1 hq
    have e : x.1 = y.1 := by
      have h1 := h x.1
      have h2 := h y.1
      rw [cnt, if_pos rfl] at h1
      have h1' : cnt (y :: s) x.1 ≠ 0 := by have := hp'.1; omega
      have h2' : cnt (x :: r) y.1 ≠ 0 := by rw [h2, cnt, if_pos rfl]; have := hq'.1; omega
      obtain ⟨z, hz, ez⟩ := cnt_in h1'
      obtain ⟨u, hu, eu⟩ := cnt_in h2'
      rcases List.mem_cons.1 hz with rfl | hz
      · exact ez.symm
      · rcases List.mem_cons.1 hu with rfl | hu
        · exact eu
        · have := ht'.1 z hz
          have := hs'.1 u hu
          omega
    have e2 : x.2 = y.2 := by
      have h1 := h x.1
      rw [cnt, if_pos rfl, cnt, if_pos e.symm] at h1
      exact h1
    obtain rfl : x = y := Prod.ext e e2
    congr 1
    refine ext_cnt hs'.2 ht'.2 hp'.2 hq'.2 fun k => ?_
    by_cases ek : x.1 = k
    · rw [cnt_out fun z hz => by have := hs'.1 z hz; omega, cnt_out fun z hz => by have := ht'.1 z hz; omega]
    · have := h k
      rwa [cnt, if_neg ek, cnt, if_neg ek] at this
theorem putAll_snoc (l m : List Pr) (x : Pr) : lputs l (m ++ [x]) = lput (lputs l m) x.1 x.2 := by simp [lputs]
theorem putAll_srt {l : List Pr} (h : Srt l) : ∀ (m : List Pr), Srt (lputs l m) := by
  intro m
  induction m generalizing l with
  | nil => exact h
  | cons x m ih => exact ih (put_srt h)
theorem putAll_pos {l : List Pr} (h : Pos l) : ∀ {m : List Pr}, Pos m → Pos (lputs l m) := by
  intro m
  induction m generalizing l with
  | nil => exact fun _ => h
  | cons x m ih => exact fun hm => ih (put_pos h (pos_cons.1 hm).1) (pos_cons.1 hm).2
theorem tot_putAll : ∀ (m l : List Pr), ltot (lputs l m) = ltot l + ltot m
  | [], l => rfl
  | x :: m, l => by
    rw [show lputs l (x :: m) = lputs (lput l x.1 x.2) m from rfl, tot_putAll m, tot_put, ltot]; omega
theorem cnt_putAll : ∀ (m l : List Pr) (j : Int), Srt l → Srt m → cnt (lputs l m) j = cnt l j + cnt m j
  | [], l, j, _, _ => rfl
  | x :: m, l, j, h, hm => by
    have hm' := srt_cons.1 hm
    rw [show lputs l (x :: m) = lputs (lput l x.1 x.2) m from rfl, cnt_putAll m _ j (put_srt h) hm'.2, cnt_put _ _ _ h, cnt]
    by_cases e : x.1 = j
    · rw [if_pos e.symm, if_pos e, cnt_out (l := m) fun z hz => by have := hm'.1 z hz; omega]; omega
    · rw [if_neg fun h => e h.symm, if_neg e]; omega
theorem putAll_mem : ∀ (m l : List Pr) (x : Pr), x ∈ lputs l m → (∃ y ∈ m, y.1 = x.1) ∨ x ∈ l
  | [], l, x, h => .inr h
  | y :: m, l, x, h => by
    rcases putAll_mem m _ x h with ⟨z, hz, e⟩ | h
    · exact .inl ⟨z, List.mem_cons_of_mem _ hz, e⟩
    · rcases put_mem h with e | h
      · exact .inl ⟨y, List.mem_cons_self, e.symm⟩
      · exact .inr h
structure Ends (l : List Pr) (a b : Int) : Prop where
  fst : cnt l a ≠ 0
  lst : cnt l b ≠ 0
  all : ∀ x ∈ l, a ≤ x.1 ∧ x.1 ≤ b
theorem Ends.le {l : List Pr} {a b : Int} (h : Ends l a b) : a ≤ b := by
  obtain ⟨x, hx, e⟩ := cnt_in h.fst
  have := h.all x hx
  omega
theorem Ends.ne {l : List Pr} {a b : Int} (h : Ends l a b) : l ≠ [] := by
  rintro rfl
  exact h.fst rfl
theorem Ends.put {l : List Pr} {a b : Int} (h : Ends l a b) (hs : Srt l) (k : Int) {n : Nat} (hn : 0 < n) : Ends (lput l k n) (min a k) (max b k) := by
  have h1 := h.fst
  have h2 := h.lst
  have hle := h.le
  refine ⟨?_, ?_, fun x hx => ?_⟩
  · rw [cnt_put _ _ _ hs]
    by_cases e : min a k = k
    · rw [if_pos e]; omega
    · rw [show min a k = a by omega]; omega
  · rw [cnt_put _ _ _ hs]
    by_cases e : max b k = k
    · rw [if_pos e]; omega
    · rw [show max b k = b by omega]; omega
  · rcases put_mem hx with e | hx
    · omega
    · have := h.all x hx
      omega
theorem Ends.one (k : Int) {n : Nat} (hn : 0 < n) : Ends (lput [] k n) k k := by
  refine ⟨?_, ?_, fun x hx => ?_⟩
  · rw [lput, cnt, if_pos rfl]; simp only; omega
  · rw [lput, cnt, if_pos rfl]; simp only; omega
  · rcases put_mem hx with e | hx
    · omega
    · cases hx
theorem Ends.putAll {l m : List Pr} {a b c d : Int} (h : Ends l a b) (k : Ends m c d) (hs : Srt l) (ht : Srt m) : Ends (lputs l m) (min a c) (max b d) := by
  have h1 := h.fst
  have h2 := h.lst
  have k1 := k.fst
  have k2 := k.lst
  refine ⟨?_, ?_, fun x hx => ?_⟩
  · rw [cnt_putAll _ _ _ hs ht]
    rcases (by omega : min a c = a ∨ min a c = c) with e | e <;> rw [e] <;> omega
  · rw [cnt_putAll _ _ _ hs ht]
    rcases (by omega : max b d = b ∨ max b d = d) with e | e <;> rw [e] <;> omega
  · rcases putAll_mem _ _ _ hx with ⟨y, hy, e⟩ | hx
    · have := k.all y hy
      omega
    · have := h.all x hx
      omega
theorem putAll_of_nil : ∀ {m : List Pr}, Srt m → Pos m → lputs [] m = m := by
  intro m hs hp
  refine ext_cnt (putAll_srt srt_nil m) hs (putAll_pos pos_nil hp) hp fun k => ?_
  rw [cnt_putAll _ _ _ srt_nil hs, cnt, Nat.zero_add]
theorem ends_nil_or : ∀ {l : List Pr}, Srt l → Pos l → l ≠ [] → ∃ a b, Ends l a b := by
  intro l
  induction l with
  | nil => exact fun _ _ h => absurd rfl h
  | cons x r ih =>
    intro hs hp _
    have hs' := srt_cons.1 hs
    have hp' := pos_cons.1 hp
    have hx : cnt (x :: r) x.1 ≠ 0 := by rw [cnt, if_pos rfl]; omega
    by_cases hr : r = []
    · subst hr
      exact ⟨x.1, x.1, hx, hx, fun y hy => by obtain rfl := List.mem_singleton.1 hy; omega⟩
    · obtain ⟨a, b, h⟩ := ih hs'.2 hp'.2 hr
      have hb : x.1 < b := by
        obtain ⟨y, hy, e⟩ := cnt_in h.lst
        have := hs'.1 y hy
        omega
      refine ⟨x.1, b, hx, by rw [cnt, if_neg (by omega)]; exact h.lst, fun y hy => ?_⟩
      rcases List.mem_cons.1 hy with rfl | hy
      · omega
      · have := hs'.1 y hy
        have := h.all y hy
        omega
theorem ends_at : ∀ {l : List Pr} {a b : Int}, Srt l → Ends l a b → ∃ (h : 0 < l.length), (l[0]'h).1 = a ∧ (l[l.length - 1]'(by omega)).1 = b := by
  intro l a b hs h
  have hl : 0 < l.length := List.length_pos_iff.2 h.ne
  refine ⟨hl, ?_, ?_⟩
  · obtain ⟨x, hx, e⟩ := cnt_in h.fst
    obtain ⟨i, hi, rfl⟩ := List.mem_iff_getElem.1 hx
    have h1 := (h.all _ (List.getElem_mem hl)).1
    by_cases h0 : i = 0
    · subst h0; exact e
    · have := List.pairwise_iff_getElem.1 hs 0 i hl hi (by omega)
      omega
  · obtain ⟨x, hx, e⟩ := cnt_in h.lst
    obtain ⟨i, hi, rfl⟩ := List.mem_iff_getElem.1 hx
    have h1 := (h.all _ (List.getElem_mem (show l.length - 1 < l.length by omega))).2
    by_cases h0 : i = l.length - 1
    · subst h0; exact e
    · have := List.pairwise_iff_getElem.1 hs i (l.length - 1) hi (by omega) (by omega)
      omega
theorem len_le : ∀ {l : List Pr} {a b : Int}, Srt l → (∀ x ∈ l, a ≤ x.1 ∧ x.1 ≤ b) → a ≤ b + 1 → (l.length : Int) ≤ b - a + 1
  | [], a, b, _, _, h => by simp; omega
  | x :: r, a, b, hs, ha, h => by
    have hs' := srt_cons.1 hs
    have hx := ha x List.mem_cons_self
    have := len_le (a := x.1 + 1) (b := b) hs'.2 (fun y hy => by have := hs'.1 y hy; have := ha y (List.mem_cons_of_mem _ hy); omega) (by omega)
    rw [List.length_cons]
    omega
structure Ok (l : List Pr) : Prop where
  srt : Srt l
  pos : Pos l
  key : ∀ x ∈ l, -1048576 ≤ x.1 ∧ x.1 ≤ 1048576
  win : ∀ x ∈ l, ∀ y ∈ l, y.1 - x.1 < 8192
  tot : ltot l ≤ 4611686018427387904
theorem Ok.nil : Ok [] := ⟨srt_nil, pos_nil, (fun _ h => (by cases h)), (fun _ h => (by cases h)), by decide⟩
theorem Ok.ends {l : List Pr} (h : Ok l) {a b : Int} (e : Ends l a b) : -1048576 ≤ a ∧ b ≤ 1048576 ∧ a ≤ b ∧ b - a < 8192 := by
  obtain ⟨x, hx, rfl⟩ := cnt_in e.fst
  obtain ⟨y, hy, rfl⟩ := cnt_in e.lst
  exact ⟨(h.key x hx).1, (h.key y hy).2, e.le, h.win x hx y hy⟩
theorem Ok.of {l : List Pr} {a b : Int} (hs : Srt l) (hp : Pos l) (ha : ∀ x ∈ l, a ≤ x.1 ∧ x.1 ≤ b) (h1 : -1048576 ≤ a) (h2 : b ≤ 1048576) (h3 : b - a < 8192) (ht : ltot l ≤ 4611686018427387904) : Ok l :=
  ⟨hs, hp, fun x hx => by have := ha x hx; omega, fun x hx y hy => by have := ha x hx; have := ha y hy; omega, ht⟩
theorem Ok.len {l : List Pr} (h : Ok l) : l.length ≤ 8192 := by
  by_cases hl : l = []
  · subst hl; simp
  · obtain ⟨a, b, e⟩ := ends_nil_or h.srt h.pos hl
    have h1 := h.ends e
    have := len_le h.srt e.all (by omega)
    omega
def wid (l : List Pr) (k : Int) : Int := if h : 0 < l.length then max (l[l.length - 1]'(by omega)).1 k - min (l[0]'h).1 k + 1 else 1
theorem wid_ends {l : List Pr} {a b : Int} (hs : Srt l) (h : Ends l a b) (k : Int) : wid l k = max b k - min a k + 1 := by
  obtain ⟨hl, e1, e2⟩ := ends_at hs h
  unfold wid
  rw [dif_pos hl, e1, e2]
def addE (l : List Pr) (k : Int) (n : Nat) : Nat :=
  if n = 0 then 4 else if k < -1048576 ∨ 1048576 < k then 5 else if 8192 < wid l k then 130 else if 4611686018427387904 - ltot l < n then 6 else 0
def addL (l : List Pr) (k : Int) (n : Nat) : List Pr := if addE l k n = 0 then lput l k n else l
theorem addE_zero {l : List Pr} {k : Int} {n : Nat} (h : addE l k n = 0) : 0 < n ∧ -1048576 ≤ k ∧ k ≤ 1048576 ∧ wid l k ≤ 8192 ∧ n ≤ 4611686018427387904 - ltot l := by
  unfold addE at h
  repeat' split at h
  all_goals first | (simp at h; done) | omega
theorem Ok.put {l : List Pr} (h : Ok l) {k : Int} {n : Nat} (e : addE l k n = 0) : Ok (lput l k n) := by
  obtain ⟨h0, h1, h2, h3, h4⟩ := addE_zero e
  have ht : ltot (lput l k n) ≤ 4611686018427387904 := by rw [tot_put]; have := h.tot; omega
  by_cases hl : l = []
  · subst hl
    exact Ok.of (put_srt h.srt) (put_pos h.pos h0) (Ends.one k h0).all h1 h2 (by omega) ht
  · obtain ⟨a, b, en⟩ := ends_nil_or h.srt h.pos hl
    have hb := h.ends en
    rw [wid_ends h.srt en] at h3
    exact Ok.of (put_srt h.srt) (put_pos h.pos h0) (en.put h.srt k h0).all (by omega) (by omega) (by omega) ht
theorem Ok.add {l : List Pr} (h : Ok l) (k : Int) (n : Nat) : Ok (addL l k n) := by
  unfold addL
  split
  · exact h.put (by assumption)
  · exact h
def wids (l m : List Pr) : Int := if h : 0 < l.length ∧ 0 < m.length then max (l[l.length - 1]'(by omega)).1 (m[m.length - 1]'(by omega)).1 - min (l[0]'h.1).1 (m[0]'h.2).1 + 1 else 0
theorem wids_ends {l m : List Pr} {a b c d : Int} (hs : Srt l) (ht : Srt m) (h : Ends l a b) (k : Ends m c d) : wids l m = max b d - min a c + 1 := by
  obtain ⟨hl, e1, e2⟩ := ends_at hs h
  obtain ⟨hm, e3, e4⟩ := ends_at ht k
  unfold wids
  rw [dif_pos ⟨hl, hm⟩, e1, e2, e3, e4]
def takeE (l m : List Pr) : Nat :=
  if m = [] then 0 else if 8192 < wids l m then 130 else if 4611686018427387904 - ltot l < ltot m then 6 else 0
def takeL (l m : List Pr) : List Pr := if takeE l m = 0 then lputs l m else l
theorem takeE_zero {l m : List Pr} (hm : m ≠ []) (h : takeE l m = 0) : wids l m ≤ 8192 ∧ ltot m ≤ 4611686018427387904 - ltot l := by
  unfold takeE at h
  rw [if_neg hm] at h
  repeat' split at h
  all_goals first | (simp at h; done) | omega
theorem Ok.putAll {l m : List Pr} (h : Ok l) (k : Ok m) (hm : m ≠ []) (e : takeE l m = 0) : Ok (lputs l m) := by
  obtain ⟨h1, h2⟩ := takeE_zero hm e
  have ht : ltot (lputs l m) ≤ 4611686018427387904 := by rw [tot_putAll]; have := h.tot; omega
  obtain ⟨c, d, en⟩ := ends_nil_or k.srt k.pos hm
  have hd := k.ends en
  by_cases hl : l = []
  · subst hl
    exact Ok.of (putAll_srt h.srt m) (putAll_pos h.pos k.pos) (by rw [putAll_of_nil k.srt k.pos]; exact en.all) hd.1 hd.2.1 hd.2.2.2 ht
  · obtain ⟨a, b, el⟩ := ends_nil_or h.srt h.pos hl
    have hb := h.ends el
    rw [wids_ends h.srt k.srt el en] at h1
    exact Ok.of (putAll_srt h.srt m) (putAll_pos h.pos k.pos) (el.putAll en h.srt k.srt).all (by omega) (by omega) (by omega) ht
theorem takeL_nil (l : List Pr) : takeL l [] = l := by unfold takeL; rw [if_pos (by simp [takeE])]; rfl
theorem Ok.take {l m : List Pr} (h : Ok l) (k : Ok m) : Ok (takeL l m) := by
  by_cases hm : m = []
  · subst hm; rw [takeL_nil]; exact h
  · unfold takeL
    split
    · exact h.putAll k hm (by assumption)
    · exact h
end Go.Proofs.YtaemgflhgdlmiaaGreat

namespace Go.Proofs.YtaemgflhgdlmiaaGreat
def smid (a f : Nat) : Nat := min (f + a * f / 10000) 9223372036854775807
def shi (a f : Nat) : Nat := min (10000 * smid a f / (10000 - a)) 9223372036854775807
def slo (a : Nat) : Nat → Nat
  | 0 => 1
  | i + 1 => shi a (slo a i) + 1
theorem smid_le (a f : Nat) : smid a f ≤ 9223372036854775807 := Nat.min_le_right _ _
theorem shi_le (a f : Nat) : shi a f ≤ 9223372036854775807 := Nat.min_le_right _ _
theorem smid_ge {a f : Nat} (hf : f ≤ 9223372036854775807) : f ≤ smid a f := by
  unfold smid
  exact Nat.le_min.2 ⟨Nat.le_add_right _ _, hf⟩
theorem div_ge {a m : Nat} (ha : a ≤ 5000) : m ≤ 10000 * m / (10000 - a) := by
  rw [Nat.le_div_iff_mul_le (by omega), Nat.mul_comm]
  exact Nat.mul_le_mul_right _ (by omega)
theorem shi_mid {a f : Nat} (ha : a ≤ 5000) : smid a f ≤ shi a f := by
  unfold shi
  exact Nat.le_min.2 ⟨div_ge ha, smid_le a f⟩
theorem shi_ge {a f : Nat} (ha : a ≤ 5000) (hf : f ≤ 9223372036854775807) : f ≤ shi a f := Nat.le_trans (smid_ge hf) (shi_mid ha)
theorem shi_cap {a f : Nat} (ha : a ≤ 5000) (hf : 9223372036854775807 ≤ f) : shi a f = 9223372036854775807 := by
  have h1 : smid a f = 9223372036854775807 := by
    unfold smid
    exact Nat.min_eq_right (Nat.le_trans hf (Nat.le_add_right _ _))
  have h2 := shi_mid (a := a) (f := f) ha
  have h3 := shi_le a f
  omega
theorem slo_le {a : Nat} (i : Nat) : slo a i ≤ 9223372036854775808 := by
  cases i with
  | zero => show (1 : Nat) ≤ _; decide
  | succ i => have := shi_le a (slo a i); rw [slo]; omega
theorem slo_next {a : Nat} (ha : a ≤ 5000) (i : Nat) (h : slo a i ≤ 9223372036854775807) : slo a i < slo a (i + 1) := by
  have := shi_ge ha h
  rw [slo]
  omega
theorem slo_end {a : Nat} (ha : a ≤ 5000) (i : Nat) (h : slo a i = 9223372036854775808) : slo a (i + 1) = 9223372036854775808 := by
  rw [slo, shi_cap ha (by omega)]
theorem slo_mono {a : Nat} (ha : a ≤ 5000) (i : Nat) : ∀ j, slo a i ≤ slo a (i + j)
  | 0 => Nat.le_refl _
  | j + 1 => by
    have h1 := slo_mono ha i j
    have h2 := slo_le (a := a) (i + j)
    by_cases h : slo a (i + j) ≤ 9223372036854775807
    · have := slo_next ha (i + j) h
      rw [← Nat.add_assoc]
      omega
    · have := slo_end ha (i + j) (by omega)
      rw [← Nat.add_assoc]
      omega
theorem slo_grow {a : Nat} (h1 : 100 ≤ a) (ha : a ≤ 5000) (i : Nat) (h : slo a (i + 1) ≤ 9223372036854775807) : slo a i * 101 ≤ slo a (i + 1) * 100 := by
  have h0 : slo a i ≤ 9223372036854775807 := Nat.le_trans (slo_mono ha i 1) h
  have hs : shi a (slo a i) < 9223372036854775807 := by rw [slo] at h; omega
  have hm : smid a (slo a i) < 9223372036854775807 := Nat.lt_of_le_of_lt (shi_mid ha) hs
  have e : smid a (slo a i) = slo a i + a * slo a i / 10000 := by
    unfold smid at hm ⊢
    omega
  have h5 : 100 * slo a i / 10000 ≤ a * slo a i / 10000 := Nat.div_le_div_right (Nat.mul_le_mul_right _ h1)
  have h6 := shi_mid (a := a) (f := slo a i) ha
  rw [slo]
  generalize shi a (slo a i) = S at *
  generalize smid a (slo a i) = M at *
  generalize slo a i = F at *
  generalize a * F / 10000 = Q at *
  omega
theorem slo_many {a : Nat} (h1 : 100 ≤ a) (ha : a ≤ 5000) (i : Nat) : ∀ j, slo a (i + j) ≤ 9223372036854775807 → slo a i * 101 ^ j ≤ slo a (i + j) * 100 ^ j
  | 0, _ => by simp
  | j + 1, h => by
    have h2 := slo_many h1 ha i j (Nat.le_trans (slo_mono ha (i + j) 1) h)
    have h3 := slo_grow h1 ha (i + j) h
    rw [← Nat.add_assoc, Nat.pow_succ, Nat.pow_succ, ← Nat.mul_assoc, Nat.mul_comm (100 ^ j) 100, ← Nat.mul_assoc]
    calc slo a i * 101 ^ j * 101 ≤ slo a (i + j) * 100 ^ j * 101 := Nat.mul_le_mul_right _ h2
      _ = slo a (i + j) * 101 * 100 ^ j := by rw [Nat.mul_assoc, Nat.mul_comm (100 ^ j) 101, ← Nat.mul_assoc]
      _ ≤ slo a (i + j + 1) * 100 * 100 ^ j := Nat.mul_le_mul_right _ h3
theorem slo_double {a : Nat} (h1 : 100 ≤ a) (ha : a ≤ 5000) (i : Nat) (h : slo a (i + 70) ≤ 9223372036854775807) : slo a i * 2 ≤ slo a (i + 70) := by
  have h2 := slo_many h1 ha i 70 h
  have h3 : 2 * 100 ^ 70 ≤ 101 ^ 70 := by decide
  have h4 : slo a i * (2 * 100 ^ 70) ≤ slo a (i + 70) * 100 ^ 70 := Nat.le_trans (Nat.mul_le_mul_left _ h3) h2
  rw [← Nat.mul_assoc] at h4
  exact Nat.le_of_mul_le_mul_right h4 (Nat.pow_pos (by decide))
theorem slo_pow {a : Nat} (h1 : 100 ≤ a) (ha : a ≤ 5000) : ∀ n, slo a (70 * n) ≤ 9223372036854775807 → 2 ^ n ≤ slo a (70 * n)
  | 0, _ => by simp [slo]
  | n + 1, h => by
    rw [show 70 * (n + 1) = 70 * n + 70 by omega] at h ⊢
    have h2 := slo_pow h1 ha n (Nat.le_trans (slo_mono ha _ 70) h)
    have h3 := slo_double h1 ha _ h
    rw [Nat.pow_succ]
    omega
theorem slo_top {a : Nat} (h1 : 100 ≤ a) (ha : a ≤ 5000) : slo a 4410 = 9223372036854775808 := by
  have h2 := slo_le (a := a) 4410
  have h3 : ¬ slo a (70 * 63) ≤ 9223372036854775807 := fun h => by
    have := slo_pow h1 ha 63 h
    omega
  rw [show 70 * 63 = 4410 from rfl] at h3
  omega
def skF (a m : Nat) : Nat → Nat → Nat
  | 0, k => k
  | f + 1, k => if m ≤ shi a (slo a k) then k else skF a m f (k + 1)
def skey (a m : Nat) : Nat := skF a m 4410 0
def sN (a : Nat) : Nat := skey a 9223372036854775807 + 1
theorem skF_before (a m : Nat) : ∀ f k i, k ≤ i → i < skF a m f k → shi a (slo a i) < m
  | 0, k, i, h1, h2 => by rw [skF] at h2; omega
  | f + 1, k, i, h1, h2 => by
    rw [skF] at h2
    split at h2
    · omega
    · rename_i h
      by_cases hi : i = k
      · subst hi
        omega
      · exact skF_before a m f (k + 1) i (by omega) h2
theorem skF_at (a m : Nat) : ∀ f k, (∃ i, k ≤ i ∧ i < k + f ∧ m ≤ shi a (slo a i)) → m ≤ shi a (slo a (skF a m f k)) ∧ skF a m f k < k + f
  | 0, k, ⟨i, h1, h2, _⟩ => by omega
  | f + 1, k, ⟨i, h1, h2, h3⟩ => by
    rw [skF]
    by_cases h : m ≤ shi a (slo a k)
    · rw [if_pos h]
      exact ⟨h, by omega⟩
    · rw [if_neg h]
      have hk : i ≠ k := fun e => h (e ▸ h3)
      have := skF_at a m f (k + 1) ⟨i, by omega, by omega, h3⟩
      exact ⟨this.1, by omega⟩
theorem shi_top {a : Nat} (h1 : 100 ≤ a) (ha : a ≤ 5000) : shi a (slo a 4409) = 9223372036854775807 := by
  have := slo_top h1 ha
  rw [slo] at this
  omega
theorem skey_at {a m : Nat} (h1 : 100 ≤ a) (ha : a ≤ 5000) (hm : m ≤ 9223372036854775807) : m ≤ shi a (slo a (skey a m)) ∧ skey a m < 4410 := by
  have := skF_at a m 4410 0 ⟨4409, Nat.zero_le _, by omega, by rw [shi_top h1 ha]; exact hm⟩
  exact ⟨this.1, by have := this.2; unfold skey; omega⟩
theorem skey_before {a m i : Nat} (h : i < skey a m) : shi a (slo a i) < m := skF_before a m 4410 0 i (Nat.zero_le _) h
theorem shi_mono {a : Nat} (ha : a ≤ 5000) {i j : Nat} (h : i ≤ j) : shi a (slo a i) ≤ shi a (slo a j) := by
  have h1 := slo_mono ha (i + 1) (j - i)
  rw [show i + 1 + (j - i) = j + 1 by omega, slo, slo] at h1
  omega
theorem skey_is {a m k : Nat} (h1 : 100 ≤ a) (ha : a ≤ 5000) (hm : m ≤ 9223372036854775807) (hb : ∀ i, i < k → shi a (slo a i) < m) (hk : m ≤ shi a (slo a k)) : skey a m = k := by
  have h2 := skey_at h1 ha hm
  rcases Nat.lt_trichotomy (skey a m) k with h | h | h
  · have := hb _ h
    omega
  · exact h
  · have := skey_before h
    omega
theorem sN_le {a : Nat} (h1 : 100 ≤ a) (ha : a ≤ 5000) : sN a ≤ 4410 := (skey_at h1 ha (Nat.le_refl _)).2
theorem sN_pos (a : Nat) : 1 ≤ sN a := by unfold sN; omega
theorem sN_last {a : Nat} (h1 : 100 ≤ a) (ha : a ≤ 5000) : shi a (slo a (sN a - 1)) = 9223372036854775807 := by
  have := (skey_at h1 ha (Nat.le_refl 9223372036854775807)).1
  have h2 := shi_le a (slo a (skey a 9223372036854775807))
  unfold sN
  rw [Nat.add_sub_cancel]
  omega
theorem sN_before {a i : Nat} (h : i + 1 < sN a) : shi a (slo a i) < 9223372036854775807 := skey_before (by unfold sN at h; omega)
theorem slo_in {a i : Nat} (h : i < sN a) : slo a i ≤ 9223372036854775807 := by
  cases i with
  | zero => show (1 : Nat) ≤ _; decide
  | succ i =>
    have := sN_before h
    rw [slo]
    omega
theorem skey_lt {a m : Nat} (h1 : 100 ≤ a) (ha : a ≤ 5000) (hm : m ≤ 9223372036854775807) : skey a m < sN a := by
  have h2 := sN_last h1 ha
  have h3 := sN_pos a
  rcases Nat.lt_or_ge (sN a - 1) (skey a m) with h | h
  · have := skey_before h
    omega
  · omega
def skeyI (a : Nat) (v : Int) : Int := if v = 0 then 0 else if v < 0 then - ((skey a v.natAbs + 1 : Nat) : Int) else ((skey a v.natAbs + 1 : Nat) : Int)
theorem skeyI_in {a : Nat} (h1 : 100 ≤ a) (ha : a ≤ 5000) {v : Int} (hv : v.natAbs ≤ 9223372036854775807) : - (sN a : Int) ≤ skeyI a v ∧ skeyI a v ≤ (sN a : Int) := by
  have := skey_lt h1 ha hv
  unfold skeyI
  split
  · omega
  · split <;> omega
def rlow (a : Nat) (k : Int) : Int := if k = 0 then 0 else if k < 0 then - ((shi a (slo a (k.natAbs - 1)) : Nat) : Int) else ((slo a (k.natAbs - 1) : Nat) : Int)
def rhigh (a : Nat) (k : Int) : Int := if k = 0 then 0 else if k < 0 then - ((slo a (k.natAbs - 1) : Nat) : Int) else ((shi a (slo a (k.natAbs - 1)) : Nat) : Int)
end Go.Proofs.YtaemgflhgdlmiaaGreat
