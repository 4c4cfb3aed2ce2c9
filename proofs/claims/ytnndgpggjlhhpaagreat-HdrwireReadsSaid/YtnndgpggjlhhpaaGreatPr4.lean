/- DnAll, HrMp -/
import Derived.Test.YtnndgpggjlhhpaaGreatPr1
import Derived.Test.YtnndgpggjlhhpaaGreatPr2
import Derived.StillTailTactics
import Derived.BigRegion
import Derived.Deep.RegionLaw
import Derived.Deep.RegionHeld3
import Derived.Deep.CutBlock
import Derived.Deep.DeepCutAuto
import Derived.Deep.CutRange
import Derived.WalkKit
import Derived.WalkSpells
import Derived.WalkLawsBesides
import Derived.Deep.QuietTactic
import Derived.BigQuiet
import Derived.RegionTactic
import Derived.Deep.AppendLies
import Derived.Laws.ResultCell
import Derived.Laws.EntriesVeiled
import Derived.Lib.Hide
import Derived.Test.YtnndgpggjlhhpaaGreatRows
import Derived.Laws.BytesArg
import Derived.Lib.SlBytesConst
import Derived.Maps.AppendAt
import Derived.Laws.AppendOwnNone
import Derived.Maps.RangeWalk
set_option maxRecDepth 100000
set_option maxHeartbeats 8000000
namespace Go.Proofs.YtnndgpggjlhhpaaGreat
abbrev Pr := Int × Nat
def cnt : List Pr → Int → Nat
  | [], _ => 0
  | x :: r, j => if x.1 = j then x.2 else cnt r j
def ltot : List Pr → Nat
  | [] => 0
  | x :: r => x.2 + ltot r
def lput : List Pr → Int → Nat → List Pr
  | [], k, n => [(k, n)]
  | x :: r, k, n => if x.1 < k then x :: lput r k n else if x.1 = k then (k, x.2 + n) :: r else (k, n) :: x :: r
def lputs (l m : List Pr) : List Pr := m.foldl (fun a x => lput a x.1 x.2) l
def Srt (l : List Pr) : Prop := l.Pairwise fun a b => a.1 < b.1
def Pos (l : List Pr) : Prop := ∀ x ∈ l, 0 < x.2
theorem srt_nil : Srt [] := List.Pairwise.nil
theorem srt_cons {x : Pr} {r : List Pr} : Srt (x :: r) ↔ (∀ y ∈ r, x.1 < y.1) ∧ Srt r := List.pairwise_cons
theorem pos_nil : Pos [] := fun _ h => by cases h
theorem pos_cons {x : Pr} {r : List Pr} : Pos (x :: r) ↔ 0 < x.2 ∧ Pos r := by simp [Pos]
theorem cnt_out : ∀ {l : List Pr} {k : Int}, (∀ x ∈ l, x.1 ≠ k) → cnt l k = 0
  | [], _, _ => rfl
  | x :: r, k, h => by
    rw [cnt, if_neg (h x List.mem_cons_self)]
    exact cnt_out fun y hy => h y (List.mem_cons_of_mem _ hy)
theorem cnt_in : ∀ {l : List Pr} {k : Int}, cnt l k ≠ 0 → ∃ x ∈ l, x.1 = k
  | [], _, h => absurd rfl h
  | x :: r, k, h => by
    rw [cnt] at h
    by_cases e : x.1 = k
    · exact ⟨x, List.mem_cons_self, e⟩
    · rw [if_neg e] at h
      obtain ⟨y, hy, e⟩ := cnt_in h
      exact ⟨y, List.mem_cons_of_mem _ hy, e⟩
theorem cnt_mem : ∀ {l : List Pr}, Srt l → ∀ {x : Pr}, x ∈ l → cnt l x.1 = x.2
  | y :: r, hs, x, hx => by
    rw [srt_cons] at hs
    rw [cnt]
    rcases List.mem_cons.1 hx with rfl | hx
    · rw [if_pos rfl]
    · have := hs.1 x hx
      rw [if_neg (by omega)]
      exact cnt_mem hs.2 hx
theorem cnt_tot : ∀ (l : List Pr) (k : Int), cnt l k ≤ ltot l
  | [], _ => Nat.le_refl _
  | x :: r, k => by
    rw [cnt, ltot]
    have := cnt_tot r k
    split <;> omega
theorem put_mem : ∀ {l : List Pr} {k : Int} {n : Nat} {x : Pr}, x ∈ lput l k n → x.1 = k ∨ x ∈ l
  | [], k, n, x, h => by
    rw [lput] at h
    obtain rfl := List.mem_singleton.1 h
    exact .inl rfl
  | y :: r, k, n, x, h => by
    rw [lput] at h
    split at h
    · rcases List.mem_cons.1 h with rfl | h
      · exact .inr List.mem_cons_self
      · exact (put_mem h).imp id fun h => List.mem_cons_of_mem _ h
    · split at h
      · rcases List.mem_cons.1 h with rfl | h
        · exact .inl rfl
        · exact .inr (List.mem_cons_of_mem _ h)
      · rcases List.mem_cons.1 h with rfl | h
        · exact .inl rfl
        · exact .inr h
theorem put_srt : ∀ {l : List Pr} {k : Int} {n : Nat}, Srt l → Srt (lput l k n)
  | [], k, n, _ => by rw [lput]; exact List.pairwise_singleton _ _
  | y :: r, k, n, h => by
    have h' := srt_cons.1 h
    rw [lput]
    split
    · rename_i hy
      refine srt_cons.2 ⟨fun z hz => ?_, put_srt h'.2⟩
      rcases put_mem hz with e | hz
      · rw [e]; exact hy
      · exact h'.1 z hz
    · split
      · rename_i _ e
        exact srt_cons.2 ⟨fun z hz => by have := h'.1 z hz; simp only; omega, h'.2⟩
      · refine srt_cons.2 ⟨fun z hz => ?_, h⟩
        rcases List.mem_cons.1 hz with rfl | hz
        · simp only; omega
        · have := h'.1 z hz
          simp only; omega
theorem put_pos : ∀ {l : List Pr} {k : Int} {n : Nat}, Pos l → 0 < n → Pos (lput l k n)
  | [], k, n, _, hn => by rw [lput]; exact pos_cons.2 ⟨hn, pos_nil⟩
  | y :: r, k, n, h, hn => by
    have h' := pos_cons.1 h
    rw [lput]
    split
    · exact pos_cons.2 ⟨h'.1, put_pos h'.2 hn⟩
    · split
      · exact pos_cons.2 ⟨by have := h'.1; simp only; omega, h'.2⟩
      · exact pos_cons.2 ⟨hn, h⟩
theorem tot_put : ∀ (l : List Pr) (k : Int) (n : Nat), ltot (lput l k n) = ltot l + n
  | [], k, n => by simp [lput, ltot]
  | y :: r, k, n => by
    have ih := tot_put r k n
    rw [lput]
    split
    · rw [ltot, ih, ltot]; omega
    · split
      · rw [ltot, ltot]; simp only; omega
      · rw [ltot, ltot]; simp only; omega
theorem cnt_put : ∀ {l : List Pr} (k : Int) (n : Nat) (j : Int), Srt l → cnt (lput l k n) j = cnt l j + if j = k then n else 0
  | [], k, n, j, _ => by
    rw [lput, cnt, cnt]
    simp only
    by_cases e : k = j
    · rw [if_pos e, if_pos e.symm]; omega
    · rw [if_neg e, if_neg fun h => e h.symm]; rfl
  | y :: r, k, n, j, h => by
    have h' := srt_cons.1 h
    have ih := cnt_put k n j h'.2
    rw [lput]
    by_cases h1 : y.1 < k
    · rw [if_pos h1, cnt, cnt]
      by_cases e : y.1 = j
      · rw [if_pos e, if_pos e, if_neg (by omega)]; rfl
      · rw [if_neg e, if_neg e, ih]
    · rw [if_neg h1]
      by_cases h2 : y.1 = k
      · rw [if_pos h2, cnt, cnt]
        simp only
        by_cases e : k = j
        · rw [if_pos e, if_pos (by omega), if_pos e.symm]
        · rw [if_neg e, if_neg (by omega), if_neg (by omega)]; rfl
      · rw [if_neg h2, cnt]
        simp only
        by_cases e : k = j
        · rw [if_pos e, if_pos e.symm]
          have : cnt (y :: r) j = 0 := cnt_out fun z hz => by
            rcases List.mem_cons.1 hz with rfl | hz
            · omega
            · have := h'.1 z hz; omega
          omega
        · rw [if_neg e, if_neg fun h => e h.symm]; rfl
theorem ext_cnt : ∀ {l m : List Pr}, Srt l → Srt m → Pos l → Pos m → (∀ k, cnt l k = cnt m k) → l = m
  | [], [], _, _, _, _, _ => rfl
  | [], y :: s, _, _, _, hq, h => by
    have := h y.1
    rw [cnt, cnt, if_pos rfl] at this
    have := (pos_cons.1 hq).1
    omega
  | x :: r, [], _, _, hp, _, h => by
    have := h x.1
    rw [cnt, cnt, if_pos rfl] at this
    have := (pos_cons.1 hp).1
    omega
  | x :: r, y :: s, hs, ht, hp, hq, h => by
    have hs' := srt_cons.1 hs
    have ht' := srt_cons.1 ht
    have hp' := pos_cons.1 hp
    have hq' := pos_cons.1 hq
    have e : x.1 = y.1 := by
      have h1 := h x.1
      have h2 := h y.1
      rw [cnt, if_pos rfl] at h1
      have h1' : cnt (y :: s) x.1 ≠ 0 := by have := hp'.1; omega
      have h2' : cnt (x :: r) y.1 ≠ 0 := by rw [h2, cnt, if_pos rfl]; have := hq'.1; omega
      obtain ⟨z, hz, ez⟩ := cnt_in h1'
      obtain ⟨u, hu, eu⟩ := cnt_in h2'
      rcases List.mem_cons.1 hz with rfl | hz
      · exact ez.symm
      · rcases List.mem_cons.1 hu with rfl | hu
        · exact eu
        · have := ht'.1 z hz
          have := hs'.1 u hu
          omega
    have e2 : x.2 = y.2 := by
      have h1 := h x.1
      rw [cnt, if_pos rfl, cnt, if_pos e.symm] at h1
      exact h1
    obtain rfl : x = y := Prod.ext e e2
    congr 1
    refine ext_cnt hs'.2 ht'.2 hp'.2 hq'.2 fun k => ?_
    by_cases ek : x.1 = k
    · rw [cnt_out fun z hz => by have := hs'.1 z hz; omega, cnt_out fun z hz => by have := ht'.1 z hz; omega]
    · have := h k
      rwa [cnt, if_neg ek, cnt, if_neg ek] at this
theorem putAll_srt {l : List Pr} (h : Srt l) : ∀ (m : List Pr), Srt (lputs l m) := by
  intro m
  induction m generalizing l with
  | nil => exact h
  | cons x m ih => exact ih (put_srt h)
theorem putAll_pos {l : List Pr} (h : Pos l) : ∀ {m : List Pr}, Pos m → Pos (lputs l m) := by
  intro m
  induction m generalizing l with
  | nil => exact fun _ => h
  | cons x m ih => exact fun hm => ih (put_pos h (pos_cons.1 hm).1) (pos_cons.1 hm).2
theorem tot_putAll : ∀ (m l : List Pr), ltot (lputs l m) = ltot l + ltot m
  | [], l => rfl
  | x :: m, l => by
    rw [show lputs l (x :: m) = lputs (lput l x.1 x.2) m from rfl, tot_putAll m, tot_put, ltot]; omega
theorem cnt_putAll : ∀ (m l : List Pr) (j : Int), Srt l → Srt m → cnt (lputs l m) j = cnt l j + cnt m j
  | [], l, j, _, _ => rfl
  | x :: m, l, j, h, hm => by
    have hm' := srt_cons.1 hm
    rw [show lputs l (x :: m) = lputs (lput l x.1 x.2) m from rfl, cnt_putAll m _ j (put_srt h) hm'.2, cnt_put _ _ _ h, cnt]
    by_cases e : x.1 = j
    · rw [if_pos e.symm, if_pos e, cnt_out (l := m) fun z hz => by have := hm'.1 z hz; omega]; omega
    · rw [if_neg fun h => e h.symm, if_neg e]; omega
theorem putAll_mem : ∀ (m l : List Pr) (x : Pr), x ∈ lputs l m → (∃ y ∈ m, y.1 = x.1) ∨ x ∈ l
  | [], l, x, h => .inr h
  | y :: m, l, x, h => by
    rcases putAll_mem m _ x h with ⟨z, hz, e⟩ | h
    · exact .inl ⟨z, List.mem_cons_of_mem _ hz, e⟩
    · rcases put_mem h with e | h
      · exact .inl ⟨y, List.mem_cons_self, e.symm⟩
      · exact .inr h
structure Ends (l : List Pr) (a b : Int) : Prop where
  fst : cnt l a ≠ 0
  lst : cnt l b ≠ 0
  all : ∀ x ∈ l, a ≤ x.1 ∧ x.1 ≤ b
theorem Ends.le {l : List Pr} {a b : Int} (h : Ends l a b) : a ≤ b := by
  obtain ⟨x, hx, e⟩ := cnt_in h.fst
  have := h.all x hx
  omega
theorem Ends.ne {l : List Pr} {a b : Int} (h : Ends l a b) : l ≠ [] := by
  rintro rfl
  exact h.fst rfl
theorem Ends.put {l : List Pr} {a b : Int} (h : Ends l a b) (hs : Srt l) (k : Int) {n : Nat} (hn : 0 < n) : Ends (lput l k n) (min a k) (max b k) := by
  have h1 := h.fst
  have h2 := h.lst
  have hle := h.le
  refine ⟨?_, ?_, fun x hx => ?_⟩
  · rw [cnt_put _ _ _ hs]
    by_cases e : min a k = k
    · rw [if_pos e]; omega
    · rw [show min a k = a by omega]; omega
  · rw [cnt_put _ _ _ hs]
    by_cases e : max b k = k
    · rw [if_pos e]; omega
    · rw [show max b k = b by omega]; omega
  · rcases put_mem hx with e | hx
    · omega
    · have := h.all x hx
      omega
theorem Ends.one (k : Int) {n : Nat} (hn : 0 < n) : Ends (lput [] k n) k k := by
  refine ⟨?_, ?_, fun x hx => ?_⟩
  · rw [lput, cnt, if_pos rfl]; simp only; omega
  · rw [lput, cnt, if_pos rfl]; simp only; omega
  · rcases put_mem hx with e | hx
    · omega
    · cases hx
theorem Ends.putAll {l m : List Pr} {a b c d : Int} (h : Ends l a b) (k : Ends m c d) (hs : Srt l) (ht : Srt m) : Ends (lputs l m) (min a c) (max b d) := by
  have h1 := h.fst
  have h2 := h.lst
  have k1 := k.fst
  have k2 := k.lst
  refine ⟨?_, ?_, fun x hx => ?_⟩
  · rw [cnt_putAll _ _ _ hs ht]
    rcases (by omega : min a c = a ∨ min a c = c) with e | e <;> rw [e] <;> omega
  · rw [cnt_putAll _ _ _ hs ht]
    rcases (by omega : max b d = b ∨ max b d = d) with e | e <;> rw [e] <;> omega
  · rcases putAll_mem _ _ _ hx with ⟨y, hy, e⟩ | hx
    · have := k.all y hy
      omega
    · have := h.all x hx
      omega
theorem putAll_of_nil : ∀ {m : List Pr}, Srt m → Pos m → lputs [] m = m := by
  intro m hs hp
  refine ext_cnt (putAll_srt srt_nil m) hs (putAll_pos pos_nil hp) hp fun k => ?_
  rw [cnt_putAll _ _ _ srt_nil hs, cnt, Nat.zero_add]
theorem ends_nil_or : ∀ {l : List Pr}, Srt l → Pos l → l ≠ [] → ∃ a b, Ends l a b := by
  intro l
  induction l with
  | nil => exact fun _ _ h => absurd rfl h
  | cons x r ih =>
    intro hs hp _
    have hs' := srt_cons.1 hs
    have hp' := pos_cons.1 hp
    have hx : cnt (x :: r) x.1 ≠ 0 := by rw [cnt, if_pos rfl]; omega
    by_cases hr : r = []
    · subst hr
      exact ⟨x.1, x.1, hx, hx, fun y hy => by obtain rfl := List.mem_singleton.1 hy; omega⟩
    · obtain ⟨a, b, h⟩ := ih hs'.2 hp'.2 hr
      have hb : x.1 < b := by
        obtain ⟨y, hy, e⟩ := cnt_in h.lst
        have := hs'.1 y hy
        omega
      refine ⟨x.1, b, hx, by rw [cnt, if_neg (by omega)]; exact h.lst, fun y hy => ?_⟩
      rcases List.mem_cons.1 hy with rfl | hy
      · omega
      · have := hs'.1 y hy
        have := h.all y hy
        omega
theorem ends_at : ∀ {l : List Pr} {a b : Int}, Srt l → Ends l a b → ∃ (h : 0 < l.length), (l[0]'h).1 = a ∧ (l[l.length - 1]'(by omega)).1 = b := by
  intro l a b hs h
  have hl : 0 < l.length := List.length_pos_iff.2 h.ne
  refine ⟨hl, ?_, ?_⟩
  · obtain ⟨x, hx, e⟩ := cnt_in h.fst
    obtain ⟨i, hi, rfl⟩ := List.mem_iff_getElem.1 hx
    have h1 := (h.all _ (List.getElem_mem hl)).1
    by_cases h0 : i = 0
    · subst h0; exact e
    · have := List.pairwise_iff_getElem.1 hs 0 i hl hi (by omega)
      omega
  · obtain ⟨x, hx, e⟩ := cnt_in h.lst
    obtain ⟨i, hi, rfl⟩ := List.mem_iff_getElem.1 hx
    have h1 := (h.all _ (List.getElem_mem (show l.length - 1 < l.length by omega))).2
    by_cases h0 : i = l.length - 1
    · subst h0; exact e
    · have := List.pairwise_iff_getElem.1 hs i (l.length - 1) hi (by omega) (by omega)
      omega
theorem len_le : ∀ {l : List Pr} {a b : Int}, Srt l → (∀ x ∈ l, a ≤ x.1 ∧ x.1 ≤ b) → a ≤ b + 1 → (l.length : Int) ≤ b - a + 1
  | [], a, b, _, _, h => by simp; omega
  | x :: r, a, b, hs, ha, h => by
    have hs' := srt_cons.1 hs
    have hx := ha x List.mem_cons_self
    have := len_le (a := x.1 + 1) (b := b) hs'.2 (fun y hy => by have := hs'.1 y hy; have := ha y (List.mem_cons_of_mem _ hy); omega) (by omega)
    rw [List.length_cons]
    omega
structure Ok (l : List Pr) : Prop where
  srt : Srt l
  pos : Pos l
  key : ∀ x ∈ l, -1048576 ≤ x.1 ∧ x.1 ≤ 1048576
  win : ∀ x ∈ l, ∀ y ∈ l, y.1 - x.1 < 8192
  tot : ltot l ≤ 4611686018427387904
theorem Ok.nil : Ok [] := ⟨srt_nil, pos_nil, (fun _ h => (by cases h)), (fun _ h => (by cases h)), by decide⟩
theorem Ok.ends {l : List Pr} (h : Ok l) {a b : Int} (e : Ends l a b) : -1048576 ≤ a ∧ b ≤ 1048576 ∧ a ≤ b ∧ b - a < 8192 := by
  obtain ⟨x, hx, rfl⟩ := cnt_in e.fst
  obtain ⟨y, hy, rfl⟩ := cnt_in e.lst
  exact ⟨(h.key x hx).1, (h.key y hy).2, e.le, h.win x hx y hy⟩
theorem Ok.of {l : List Pr} {a b : Int} (hs : Srt l) (hp : Pos l) (ha : ∀ x ∈ l, a ≤ x.1 ∧ x.1 ≤ b) (h1 : -1048576 ≤ a) (h2 : b ≤ 1048576) (h3 : b - a < 8192) (ht : ltot l ≤ 4611686018427387904) : Ok l :=
  ⟨hs, hp, fun x hx => by have := ha x hx; omega, fun x hx y hy => by have := ha x hx; have := ha y hy; omega, ht⟩
theorem Ok.len {l : List Pr} (h : Ok l) : l.length ≤ 8192 := by
  by_cases hl : l = []
  · subst hl; simp
  · obtain ⟨a, b, e⟩ := ends_nil_or h.srt h.pos hl
    have h1 := h.ends e
    have := len_le h.srt e.all (by omega)
    omega
def wid (l : List Pr) (k : Int) : Int := if h : 0 < l.length then max (l[l.length - 1]'(by omega)).1 k - min (l[0]'h).1 k + 1 else 1
theorem wid_ends {l : List Pr} {a b : Int} (hs : Srt l) (h : Ends l a b) (k : Int) : wid l k = max b k - min a k + 1 := by
  obtain ⟨hl, e1, e2⟩ := ends_at hs h
  unfold wid
  rw [dif_pos hl, e1, e2]
def addE (l : List Pr) (k : Int) (n : Nat) : Nat :=
  if n = 0 then 4 else if k < -1048576 ∨ 1048576 < k then 5 else if 8192 < wid l k then 130 else if 4611686018427387904 - ltot l < n then 6 else 0
def addL (l : List Pr) (k : Int) (n : Nat) : List Pr := if addE l k n = 0 then lput l k n else l
theorem addE_zero {l : List Pr} {k : Int} {n : Nat} (h : addE l k n = 0) : 0 < n ∧ -1048576 ≤ k ∧ k ≤ 1048576 ∧ wid l k ≤ 8192 ∧ n ≤ 4611686018427387904 - ltot l := by
  unfold addE at h
  repeat' split at h
  all_goals first | (simp at h; done) | omega
theorem Ok.put {l : List Pr} (h : Ok l) {k : Int} {n : Nat} (e : addE l k n = 0) : Ok (lput l k n) := by
  obtain ⟨h0, h1, h2, h3, h4⟩ := addE_zero e
  have ht : ltot (lput l k n) ≤ 4611686018427387904 := by rw [tot_put]; have := h.tot; omega
  by_cases hl : l = []
  · subst hl
    exact Ok.of (put_srt h.srt) (put_pos h.pos h0) (Ends.one k h0).all h1 h2 (by omega) ht
  · obtain ⟨a, b, en⟩ := ends_nil_or h.srt h.pos hl
    have hb := h.ends en
    rw [wid_ends h.srt en] at h3
    exact Ok.of (put_srt h.srt) (put_pos h.pos h0) (en.put h.srt k h0).all (by omega) (by omega) (by omega) ht
theorem Ok.add {l : List Pr} (h : Ok l) (k : Int) (n : Nat) : Ok (addL l k n) := by
  unfold addL
  split
  · exact h.put (by assumption)
  · exact h
def wids (l m : List Pr) : Int := if h : 0 < l.length ∧ 0 < m.length then max (l[l.length - 1]'(by omega)).1 (m[m.length - 1]'(by omega)).1 - min (l[0]'h.1).1 (m[0]'h.2).1 + 1 else 0
theorem wids_ends {l m : List Pr} {a b c d : Int} (hs : Srt l) (ht : Srt m) (h : Ends l a b) (k : Ends m c d) : wids l m = max b d - min a c + 1 := by
  obtain ⟨hl, e1, e2⟩ := ends_at hs h
  obtain ⟨hm, e3, e4⟩ := ends_at ht k
  unfold wids
  rw [dif_pos ⟨hl, hm⟩, e1, e2, e3, e4]
def takeE (l m : List Pr) : Nat :=
  if m = [] then 0 else if 8192 < wids l m then 130 else if 4611686018427387904 - ltot l < ltot m then 6 else 0
def takeL (l m : List Pr) : List Pr := if takeE l m = 0 then lputs l m else l
theorem takeE_zero {l m : List Pr} (hm : m ≠ []) (h : takeE l m = 0) : wids l m ≤ 8192 ∧ ltot m ≤ 4611686018427387904 - ltot l := by
  unfold takeE at h
  rw [if_neg hm] at h
  repeat' split at h
  all_goals first | (simp at h; done) | omega
theorem Ok.putAll {l m : List Pr} (h : Ok l) (k : Ok m) (hm : m ≠ []) (e : takeE l m = 0) : Ok (lputs l m) := by
  obtain ⟨h1, h2⟩ := takeE_zero hm e
  have ht : ltot (lputs l m) ≤ 4611686018427387904 := by rw [tot_putAll]; have := h.tot; omega
  obtain ⟨c, d, en⟩ := ends_nil_or k.srt k.pos hm
  have hd := k.ends en
  by_cases hl : l = []
  · subst hl
    exact Ok.of (putAll_srt h.srt m) (putAll_pos h.pos k.pos) (by rw [putAll_of_nil k.srt k.pos]; exact en.all) hd.1 hd.2.1 hd.2.2.2 ht
  · obtain ⟨a, b, el⟩ := ends_nil_or h.srt h.pos hl
    have hb := h.ends el
    rw [wids_ends h.srt k.srt el en] at h1
    exact Ok.of (putAll_srt h.srt m) (putAll_pos h.pos k.pos) (el.putAll en h.srt k.srt).all (by omega) (by omega) (by omega) ht
theorem takeL_nil (l : List Pr) : takeL l [] = l := by unfold takeL; rw [if_pos (by simp [takeE])]; rfl
theorem Ok.take {l m : List Pr} (h : Ok l) (k : Ok m) : Ok (takeL l m) := by
  by_cases hm : m = []
  · subst hm; rw [takeL_nil]; exact h
  · unfold takeL
    split
    · exact h.putAll k hm (by assumption)
    · exact h
end Go.Proofs.YtnndgpggjlhhpaaGreat
namespace Go.Proofs.YtnndgpggjlhhpaaGreat
open Go.RowKit
theorem info_pr : (Tryz.prog.info? 65).map (fun i => (i.zero, i.size, i.bytes)) = some (some (.agg #[.int .i64 0, .int .u64 0]), 2, 16) := by kernel_rfl
theorem elPr : ElemOk Tryz.prog 34 65 (.agg #[.int .i64 0, .int .u64 0]) 2 16 := ⟨Tryz.underlying34, info_pr, rfl, by decide, by decide⟩
def prs (l : List Pr) : List Value := l.flatMap fun t => [.int .i64 t.1, .int .u64 (t.2 : Int)]
theorem prs_snoc (l : List Pr) (t : Pr) : prs (l ++ [t]) = prs l ++ [.int .i64 t.1, .int .u64 (t.2 : Int)] := by simp [prs]
theorem prs_len (l : List Pr) : (prs l).length = l.length * 2 := by
  induction l with
  | nil => rfl
  | cons t l ih => rw [show prs (t :: l) = [.int .i64 t.1, .int .u64 (t.2 : Int)] ++ prs l from rfl, List.length_append, ih, List.length_cons]; simp; omega
theorem prs_at : ∀ (l : List Pr) (i : Nat) (h : i < l.length), (prs l)[i * 2]? = some (.int .i64 l[i].1) ∧ (prs l)[i * 2 + 1]? = some (.int .u64 (l[i].2 : Int))
  | t :: l, 0, _ => by simp [prs]
  | t :: l, i + 1, h => by
    have := prs_at l i (by simpa using h)
    rw [show prs (t :: l) = [.int .i64 t.1, .int .u64 (t.2 : Int)] ++ prs l from rfl]
    rw [List.getElem?_append_right (by simp; omega), List.getElem?_append_right (by simp; omega)]
    simp only [List.length_cons, List.length_nil, List.getElem_cons_succ]
    rw [show (i + 1) * 2 - (0 + 1 + 1) = i * 2 by omega, show (i + 1) * 2 + 1 - (0 + 1 + 1) = i * 2 + 1 by omega]
    exact this
theorem one_pr (x : Int) (y : Nat) : ∀ u ∈ (#[Value.int .i64 x, Value.int .u64 (y : Int)]).toList, u.oneCell' = true := by
  intro u hu
  simp only [List.mem_cons, List.not_mem_nil, or_false] at hu
  rcases hu with rfl | rfl <;> rfl
structure PrI (w : World) (p : Option Addr) (l : List Pr) : Prop where
  len : l.length ≤ maxLen
  cel : l ≠ [] → ∃ b off, p = some ⟨b, off, none⟩ ∧ ∀ i, (h : i < l.length) → w.cell? ⟨b, off + i * 2, none⟩ = some (.int .i64 l[i].1) ∧ w.cell? ⟨b, off + i * 2 + 1, none⟩ = some (.int .u64 (l[i].2 : Nat))
theorem PrI.fr {S : Nat → Prop} {w w' : World} {p : Option Addr} {l : List Pr} (h : PrI w p l) (f : Fr S w w') (ho : Off S p) : PrI w' p l :=
  ⟨h.len, fun hl => let ⟨b, o, hp, hc⟩ := h.cel hl; ⟨b, o, hp, fun i hi => ⟨f.cell (hc i hi).1 (ho ⟨b, o, none⟩ hp), f.cell (hc i hi).2 (ho ⟨b, o, none⟩ hp)⟩⟩⟩
theorem PrI.fr0 {w w' : World} {p : Option Addr} {l : List Pr} (h : PrI w p l) (f : Fr S0 w w') : PrI w' p l := h.fr f (Off.s0 p)
theorem PrI.at {w : World} {p : Option Addr} {l : List Pr} (h : PrI w p l) (i : Nat) (hi : i < l.length) : ∃ b off, p = some ⟨b, off, none⟩ ∧ w.cell? ⟨b, off + i * 2, none⟩ = some (.int .i64 l[i].1) ∧ w.cell? ⟨b, off + i * 2 + 1, none⟩ = some (.int .u64 (l[i].2 : Nat)) :=
  let ⟨b, off, hp, hc⟩ := h.cel (by intro e; simp [e] at hi); ⟨b, off, hp, hc i hi⟩
theorem PrI.nil (w : World) (p : Option Addr) : PrI w p [] := ⟨by simp, fun h => absurd rfl h⟩
theorem PrI.lt {w : World} {p : Option Addr} {l : List Pr} (h : PrI w p l) (hl : l ≠ []) : ∀ a, p = some a → a.block < w.heap.size := by
  intro a ha
  obtain ⟨b, off, hp, hc⟩ := h.cel hl
  rw [hp] at ha
  obtain rfl := Option.some.inj ha
  exact World.block_lt_of_cell? w _ (hc 0 (List.length_pos_iff.2 hl)).1
theorem PrI.ofOwns {w : World} {q : Option Addr} {n d : Nat} {l : List Pr} (h : w.ownsRow 0 65 2 (.slice q n d) n (prs l)) (hm : n ≤ maxLen) : PrI w q l := by
  have hlen : l.length * 2 = n * 2 := by have h1 := h.1; rw [prs_len] at h1; exact h1
  refine ⟨by omega, fun hl => ?_⟩
  rcases h.2 with ⟨hv, hn⟩ | ⟨g, cap, cur, hv, _⟩
  · exact absurd (List.eq_nil_of_length_eq_zero (by omega)) hl
  · simp only [Value.slice.injEq] at hv
    obtain ⟨rfl, -, rfl⟩ := hv
    refine ⟨g, 0, rfl, fun i hi => ?_⟩
    obtain ⟨h1, h2⟩ := prs_at l i hi
    rw [Nat.zero_add]
    exact ⟨(h.cellAt _ (by omega)).trans h1, (h.cellAt _ (by omega)).trans h2⟩
theorem slFormN {w : World} {e : TypeId} {s : Nat} {v : Value} {n : Nat} {xs : List Value} (h : w.ownsRow 0 e s v n xs) : ∃ p c, v = .slice p n c := by
  rcases h.2 with ⟨h, h0⟩ | ⟨g, cap, cur, h, _⟩
  · exact ⟨none, 0, by rw [h, h0]⟩
  · exact ⟨_, _, h⟩
structure BoxPr (w : World) (x : Nat) (v : Value) (n : Nat) (l : List Pr) : Prop where
  blk : w.heap[x]? = some (.cells #[v] 34 (0, 0))
  own : w.ownsRow 0 65 2 v n (prs l)
  off : v.ownBlock ≠ some x
theorem BoxPr.c {w : World} {x : Nat} {v : Value} {n : Nat} {l : List Pr} (h : BoxPr w x v n l) : w.cell? ⟨x, 0, none⟩ = some v := by simp [World.cell?, h.blk]
theorem BoxPr.z {w : World} {x : Nat} {v : Value} {n : Nat} {l : List Pr} (h : BoxPr w x v n l) : w.frozen? ⟨x, 0, none⟩ = false := by simp [World.frozen?, h.blk]
structure PrsNew (w w' : World) (p : Option Addr) (c n : Nat) (l : List Pr) : Prop where
  own : w'.ownsRow 0 65 2 (.slice p n c) n (prs l)
  len : l.length = n
  fresh : ∀ a, p = some a → w.heap.size ≤ a.block
  fr : Fr S0 w w'
theorem PrsNew.pri {w w' : World} {p : Option Addr} {c n : Nat} {l : List Pr} (h : PrsNew w w' p c n l) (hn : n ≤ 1000000) : PrI w' p l := PrI.ofOwns h.own (by unfold maxLen; omega)
theorem BoxPr.fr0 {w w' : World} {x : Nat} {v : Value} {n : Nat} {l : List Pr} (h : BoxPr w x v n l) (f : Fr S0 w w') : BoxPr w' x v n l := ⟨f.row h.blk (fun h => h), f.owns h.own fun _ _ h => h, h.off⟩
end Go.Proofs.YtnndgpggjlhhpaaGreat
namespace Go.Proofs.YtnndgpggjlhhpaaGreat
open Go.RowKit
end Go.Proofs.YtnndgpggjlhhpaaGreat
namespace Go.Proofs.YtnndgpggjlhhpaaGreat
open Go.RowKit
theorem rsame_yes (p q : Option Addr) (n c d : Nat) (l : List Pr) (w : World) (h : PrI w p l) (h' : PrI w q l) (hn : l.length = n) :
    Calls Tryz.prog 24 #[.slice p n c, .slice q n d] w fun e w' => e = .returned (.bool true) ∧ Fr S0 w w' := by
  have H := Lib.hid h
  have H' := Lib.hid h'
  have HN := Lib.hid hn
  have hlen := h.len
  rw [hn] at hlen
  unfold maxLen at hlen
  clear h h' hn
  go_enter Tryz.func24, Tryz.ntmps24
  go_wp2_with fail
  go_loopw [5] (fun i wr => ∃ j : Nat, j ≤ n ∧ i = .int .i64 j ∧ Fr S0 w wr) (fun i _ => n - (intOf i).toNat)
  case atStart => exact ⟨0, by omega, rfl, Fr.refl _ _⟩
  case round =>
    obtain ⟨j, hj, rfl, hfr⟩ := hrel
    have HFR := Lib.hid hfr
    clear hfr
    by_cases hjn : (j : Int) < (n : Int)
    · obtain ⟨b, o, rfl, c0, c1⟩ := (H.out.fr0 HFR.out).at j (by rw [HN.out]; omega)
      obtain ⟨b', o', rfl, e0, e1⟩ := (H'.out.fr0 HFR.out).at j (by rw [HN.out]; omega)
      obtain ⟨⟨tk, tn⟩, ht⟩ : ∃ t, l[j]'(by rw [HN.out]; omega) = t := ⟨_, rfl⟩
      rw [ht] at c0 c1 e0 e1
      clear ht
      go_wp2_with fail
      go_quiet (fail)
      go_wp2_with fail
      go_roundw
      case rel => exact ⟨j + 1, by omega, by go_num, HFR.out.trans0 (Fr.drewN _ _ _)⟩
      case measure => simp [intOf]; omega
    · go_wp2_with fail
      go_ret
      exact ⟨rfl, HFR.out⟩
structure Acc (w wr : World) (v : Value) (N : Nat) (L : List Pr) : Prop where
  own : wr.ownsRow 0 65 2 v N (prs L)
  fresh : Fresh w v
  fr : Fr S0 w wr
theorem Acc.nil {w wr : World} (f : Fr S0 w wr) : Acc w wr (.slice none 0 0) 0 [] := ⟨World.ownsRow_nil _ _ _ _, fresh_nil _ _, f⟩
theorem Acc.len {w wr : World} {v : Value} {N : Nat} {L : List Pr} (h : Acc w wr v N L) : L.length = N := by
  have := h.own.1
  rw [prs_len] at this
  omega
theorem Acc.fr0 {w wr w2 : World} {v : Value} {N : Nat} {L : List Pr} (h : Acc w wr v N L) (f : Fr S0 wr w2) : Acc w w2 v N L := ⟨f.owns h.own fun _ _ h => h, h.fresh, h.fr.trans0 f⟩
theorem Acc.app {w wr w3 : World} {v : Value} {N : Nat} {L : List Pr} {o : Obj} {g cap n : Nat} {k : Int} (h : Acc w wr v N L) (own : w3.ownsRow 0 65 2 (.slice (some ⟨g, 0, none⟩) (N + 1) cap) (N + 1) (prs L ++ #[Value.int .i64 k, Value.int .u64 (n : Int)].toList))
    (hg : (wr.alloc o).grownBy w3 v.ownBlock) (hat : v.ownBlock = some g ∨ g = wr.heap.size + 1) : Acc w w3 (.slice (some ⟨g, 0, none⟩) (N + 1) cap) (N + 1) (L ++ [(k, n)]) :=
  ⟨by rw [prs_snoc]; exact own, fresh_app h.fr h.fresh hat, (h.fr.trans0 (Fr.alloc S0 wr _)).append hg h.fresh⟩
structure Rd (w : World) (v : Value) (l : List Pr) : Prop where
  ex : ∃ p n c, v = .slice p n c ∧ l.length = n ∧ PrI w p l
theorem Acc.rd {w wr : World} {v : Value} {N : Nat} {L : List Pr} (h : Acc w wr v N L) (hN : N ≤ 100000) : Rd wr v L := by
  have hl := h.len
  obtain ⟨own, f, r⟩ := h
  obtain ⟨p, c, rfl⟩ := slFormN own
  exact ⟨p, _, c, rfl, hl, PrI.ofOwns own (by unfold maxLen; omega)⟩
end Go.Proofs.YtnndgpggjlhhpaaGreat
namespace Go.Proofs.YtnndgpggjlhhpaaGreat
def bel : List Pr → Int → Nat
  | [], _ => 0
  | x :: r, k => (if x.1 < k then x.2 else 0) + bel r k
def keyW : List Pr → Nat → Int
  | [], _ => 0
  | x :: t, r => if r ≤ x.2 then x.1 else keyW t (r - x.2)
def above (l : List Pr) (q : Int) : List Pr := l.filter fun x => q < x.1
theorem tot_app (a b : List Pr) : ltot (a ++ b) = ltot a + ltot b := by
  induction a with
  | nil => simp [ltot]
  | cons x a ih => rw [List.cons_append, ltot, ltot, ih]; omega
end Go.Proofs.YtnndgpggjlhhpaaGreat
namespace Go.Proofs.YtnndgpggjlhhpaaGreat
def many : List Pr → Int → Nat
  | [], _ => 0
  | x :: r, k => (if x.1 = k then x.2 else 0) + many r k
end Go.Proofs.YtnndgpggjlhhpaaGreat
namespace Go.Proofs.YtnndgpggjlhhpaaGreat
open Go.RowKit
def Seen (w : World) (g : Nat) (l : List Pr) : Prop := ∃ p n c, w.cell? ⟨g, 0, none⟩ = some (.slice p n c) ∧ PrI w p l ∧ l.length = n ∧ Srt l ∧ n ≤ 2097153
theorem Seen.fr0 {w w' : World} {g : Nat} {l : List Pr} (s : Seen w g l) (f : Fr S0 w w') : Seen w' g l := let ⟨p, n, c, h1, h2, h3⟩ := s; ⟨p, n, c, f.cell h1 (fun h => h), h2.fr0 f, h3⟩
section
variable (C b g bg bf : Nat) (k : Int) (q : Int → Bool) (l : List Pr) (w : World)
end
end Go.Proofs.YtnndgpggjlhhpaaGreat
namespace Go.Proofs.YtnndgpggjlhhpaaGreat
open Go.RowKit
section
variable (p : Option Addr) (n c : Nat) (k : Int) (l : List Pr) (w : World)
end
end Go.Proofs.YtnndgpggjlhhpaaGreat
namespace Go.Proofs.YtnndgpggjlhhpaaGreat
def cums : Nat → List Pr → List Pr
  | _, [] => []
  | s, x :: t => (x.1, s + x.2) :: cums (s + x.2) t
def stp (l : List Pr) : List Pr := cums 0 l
theorem cums_len : ∀ (s : Nat) (l : List Pr), (cums s l).length = l.length
  | _, [] => rfl
  | s, x :: t => by rw [cums, List.length_cons, List.length_cons, cums_len]
theorem cums_at : ∀ (s : Nat) (l : List Pr) (i : Nat) (h : i < l.length), (cums s l)[i]'(by rw [cums_len]; exact h) = (l[i].1, s + ltot (l.take (i + 1)))
  | s, x :: t, 0, _ => by simp [cums, ltot]
  | s, x :: t, i + 1, h => by
    have := cums_at (s + x.2) t i (by simpa using h)
    simp only [cums, List.getElem_cons_succ, List.take_succ_cons, ltot]
    rw [this, Nat.add_assoc]
theorem cums_snoc : ∀ (s : Nat) (l : List Pr) (x : Pr), cums s (l ++ [x]) = cums s l ++ [(x.1, s + ltot l + x.2)]
  | s, [], x => by simp [cums, ltot]
  | s, y :: t, x => by
    rw [List.cons_append, cums, cums_snoc, cums, ltot, List.cons_append, Nat.add_assoc s y.2]
theorem stp_len (l : List Pr) : (stp l).length = l.length := cums_len 0 l
theorem stp_at (l : List Pr) (i : Nat) (h : i < l.length) : (stp l)[i]'(by rw [stp_len]; exact h) = (l[i].1, ltot (l.take (i + 1))) := by
  have := cums_at 0 l i h
  rw [Nat.zero_add] at this
  exact this
theorem stp_snoc (l : List Pr) (x : Pr) : stp (l ++ [x]) = stp l ++ [(x.1, ltot l + x.2)] := by
  have := cums_snoc 0 l x
  rw [Nat.zero_add] at this
  exact this
structure Tb (l : List Pr) : Prop where
  srt : Srt l
  pos : Pos l
  tot : ltot l ≤ 4611686018427387904
theorem Tb.nil : Tb [] := ⟨srt_nil, pos_nil, by decide⟩
theorem srt_snoc {l : List Pr} {x : Pr} : Srt (l ++ [x]) ↔ Srt l ∧ ∀ y ∈ l, y.1 < x.1 := by
  unfold Srt
  rw [List.pairwise_append]
  constructor
  · rintro ⟨h1, -, h3⟩
    exact ⟨h1, fun y hy => h3 y hy x (by simp)⟩
  · rintro ⟨h1, h2⟩
    exact ⟨h1, List.pairwise_singleton _ _, fun y hy z hz => by obtain rfl := List.mem_singleton.1 hz; exact h2 y hy⟩
theorem pos_snoc {l : List Pr} {x : Pr} : Pos (l ++ [x]) ↔ Pos l ∧ 0 < x.2 := by
  unfold Pos
  constructor
  · exact fun h => ⟨fun y hy => h y (by simp [hy]), h x (by simp)⟩
  · rintro ⟨h1, h2⟩ y hy
    rcases List.mem_append.1 hy with h | h
    · exact h1 y h
    · obtain rfl := List.mem_singleton.1 h; exact h2
theorem tot_snoc (l : List Pr) (x : Pr) : ltot (l ++ [x]) = ltot l + x.2 := by
  induction l with
  | nil => simp [ltot]
  | cons y l ih => rw [List.cons_append, ltot, ltot, ih]; omega
theorem srt_last {l : List Pr} {k : Int} (hs : Srt l) (h : ∀ (hl : 0 < l.length), (l[l.length - 1]'(by omega)).1 < k) : ∀ y ∈ l, y.1 < k := by
  intro y hy
  obtain ⟨i, hi, rfl⟩ := List.mem_iff_getElem.1 hy
  have h1 := h (by omega)
  rcases (by omega : i = l.length - 1 ∨ i < l.length - 1) with rfl | h2
  · exact h1
  · have := List.pairwise_iff_getElem.1 hs i (l.length - 1) hi (by omega) h2
    omega
theorem Tb.snoc {l : List Pr} {x : Pr} (h : Tb l) (hk : ∀ (hl : 0 < l.length), (l[l.length - 1]'(by omega)).1 < x.1) (h0 : 0 < x.2) (ht : x.2 ≤ 4611686018427387904 - ltot l) : Tb (l ++ [x]) :=
  ⟨srt_snoc.2 ⟨h.srt, srt_last h.srt hk⟩, pos_snoc.2 ⟨h.pos, h0⟩, by have := h.tot; rw [tot_snoc]; omega⟩
theorem Tb.of_app {l m : List Pr} (h : Tb (l ++ m)) : Tb l :=
  ⟨(List.pairwise_append.1 h.srt).1, fun x hx => h.pos x (by simp [hx]), by have := h.tot; rw [tot_app] at this; omega⟩
theorem Tb.last {l : List Pr} {x : Pr} (h : Tb (l ++ [x])) : (∀ (hl : 0 < l.length), (l[l.length - 1]'(by omega)).1 < x.1) ∧ 0 < x.2 ∧ x.2 ≤ 4611686018427387904 - ltot l := by
  refine ⟨fun hl => (srt_snoc.1 h.srt).2 _ (List.getElem_mem _), (pos_snoc.1 h.pos).2, ?_⟩
  have := h.tot
  rw [tot_snoc] at this
  omega
def ahd (l : List Pr) (i : Nat) : Nat := ltot (l.take i)
theorem ahd_zero (l : List Pr) : ahd l 0 = 0 := rfl
theorem ahd_all (l : List Pr) : ahd l l.length = ltot l := by unfold ahd; rw [List.take_length]
end Go.Proofs.YtnndgpggjlhhpaaGreat

namespace Go.Proofs.YtnndgpggjlhhpaaGreat
open Go.RowKit Go.MapKept Go.ChangeMaps Go.Maps
theorem mem_cnt {l : List Pr} (hs : Srt l) (hp : Pos l) (x : Pr) : x ∈ l ↔ x.2 ≠ 0 ∧ cnt l x.1 = x.2 := by
  constructor
  · intro h
    have := hp x h
    exact ⟨by omega, cnt_mem hs h⟩
  · rintro ⟨h1, h2⟩
    obtain ⟨y, hy, e⟩ := cnt_in (l := l) (k := x.1) (by omega)
    have h3 := cnt_mem hs hy
    rw [e, h2] at h3
    rw [show x = y from Prod.ext e.symm h3]
    exact hy
theorem nodup_srt {l : List Pr} (hs : Srt l) : l.Nodup := hs.imp fun h e => by rw [e] at h; omega
theorem intLaw : Keyed Tryz.prog 3 := int_keyed Tryz.underlying3
theorem keyI {k : Int} (h : 0 ≤ k ∧ k < 100000000) : keyOf Tryz.prog 3 (.int .i64 k) = some (.int .i64 k) := keyOf_int_mk Tryz.underlying3 (WalkArith.wf_i64 (by omega))
structure MpE (l : List Pr) (es : Array MapEntry) (clock : Nat) : Prop where
  st : Stamped es clock
  key : ∀ e ∈ es.toList, ∃ x ∈ l, e.key = .int .i64 x.1 ∧ e.val = .int .u64 (x.2 : Nat)
  has : ∀ x ∈ l, ∃ e ∈ es.toList, e.key = .int .i64 x.1
  srt : Srt l
  pos : Pos l
  bd : ∀ x ∈ l, 0 ≤ x.1 ∧ x.1 < 100000000
def MpI (w : World) (h : Nat) (l : List Pr) : Prop := ∃ es clock, w.heap[h]? = some (.map es clock) ∧ MpE l es clock
theorem MpE.empty : MpE [] #[] 0 := ⟨stamped_empty 0, (fun _ h => by simp at h), (fun _ h => by cases h), srt_nil, pos_nil, fun _ h => by cases h⟩
section
variable {l : List Pr} {es : Array MapEntry} {clock : Nat} (E : MpE l es clock)
include E
theorem MpE.law : ∀ e ∈ es.toList, ∃ k, keyOf Tryz.prog 3 e.key = some k := fun e he => by
  obtain ⟨x, hx, h1, -⟩ := E.key e he
  rw [h1]
  exact ⟨_, keyI (E.bd x hx)⟩
theorem MpE.at {e : MapEntry} (he : e ∈ es.toList) {k : Int} (hk : e.key = .int .i64 k) : e.val = .int .u64 (cnt l k : Nat) ∧ cnt l k ≠ 0 := by
  obtain ⟨x, hx, h1, h2⟩ := E.key e he
  rw [hk] at h1
  simp only [Value.int.injEq, true_and] at h1
  subst h1
  rw [cnt_mem E.srt hx]
  have := E.pos x hx
  exact ⟨h2, by omega⟩
theorem MpE.out {k : Int} (h : ∀ e ∈ es.toList, e.key ≠ .int .i64 k) : cnt l k = 0 := cnt_out fun x hx e => by
  obtain ⟨y, hy, h1⟩ := E.has x hx
  exact h y hy (by rw [h1, e])
theorem MpE.len : es.size = l.length := by
  have h1 : es.toList.Pairwise (fun x y => x.key ≠ y.key) := ((stamped_iff es clock).1 E.st).2.2
  have h2 : (es.toList.map (·.key)).Perm (l.map fun x => Value.int .i64 x.1) := by
    refine (List.perm_ext_iff_of_nodup (List.pairwise_map.2 h1) (List.pairwise_map.2 (E.srt.imp fun h e => by simp at e; omega))).2 fun v => ?_
    simp only [List.mem_map]
    constructor
    · rintro ⟨e, he, rfl⟩
      obtain ⟨x, hx, h3, -⟩ := E.key e he
      exact ⟨x, hx, h3.symm⟩
    · rintro ⟨x, hx, rfl⟩
      obtain ⟨e, he, h3⟩ := E.has x hx
      exact ⟨e, he, h3⟩
  have := h2.length_eq
  simpa using this
theorem MpE.look (h : Nat) (k : Int) (hk : 0 ≤ k ∧ k < 100000000) (w : World) (hb : w.heap[h]? = some (.map es clock)) :
    (Instr.lookup 59 (.map (some h)) (.int .i64 k) false).run Tryz.prog w = .ok (.int .u64 (cnt l k : Nat)) w := by
  rcases intLaw.find w (keyI hk) es.toList E.law with ⟨h1, h2⟩ | ⟨j, e0, h1, h2, h3⟩
  · rw [E.out h2]
    simp [Instr.lookup, run_underlying Tryz.underlying59, MapKept.run_getObj_map hb, intLaw.check w _ (keyI hk), h1, Result.andThen]
  · rw [← (E.at (List.mem_of_getElem? h2) h3).1]
    simp [Instr.lookup, run_underlying Tryz.underlying59, MapKept.run_getObj_map hb, intLaw.check w _ (keyI hk), h1, Result.andThen]
theorem MpE.size_run (h : Nat) (w : World) (hb : w.heap[h]? = some (.map es clock)) : (Builtin.len_ #[59] 3 #[.map (some h)]).run Tryz.prog w = .ok (.int .i64 (l.length : Nat)) w := by
  rw [← E.len]
  simp [Builtin.len_, run_underlying Tryz.underlying59, MapKept.run_getObj_map hb, Result.andThen, goInt]
theorem MpE.put (h : Nat) (k : Int) (n : Nat) (hk : 0 ≤ k ∧ k < 100000000) (hn : 0 < n) :
    ∃ es2 clock2, MpE (lput l k n) es2 clock2 ∧ ∀ (w : World) (v : Value), v = .int .u64 (cnt l k + n : Nat) → w.heap[h]? = some (.map es clock) → (Instr.mapUpdate 59 (.map (some h)) (.int .i64 k) v).run Tryz.prog w = .ok () (setBlock w h (.map es2 clock2)) := by
  have hs2 := put_srt (k := k) (n := n) E.srt
  have hp2 := put_pos (k := k) (n := n) E.pos hn
  have hbd : ∀ x ∈ lput l k n, 0 ≤ x.1 ∧ x.1 < 100000000 := fun x hx => by
    rcases put_mem hx with e | hx
    · rw [e]; exact hk
    · exact E.bd x hx
  have hnew : (k, cnt l k + n) ∈ lput l k n := (mem_cnt hs2 hp2 _).2 ⟨by simp only; omega, by simp only; rw [cnt_put k n k E.srt, if_pos rfl]⟩
  have hold : ∀ x ∈ l, x.1 ≠ k → x ∈ lput l k n := fun x hx hne => by
    have := E.pos x hx
    refine (mem_cnt hs2 hp2 _).2 ⟨by omega, ?_⟩
    rw [cnt_put k n x.1 E.srt, if_neg hne, cnt_mem E.srt hx, Nat.add_zero]
  have hK : ∀ w, ((Instr.findKey 3 (.int .i64 k) es.toList).run Tryz.prog w = .ok none w ∧ ∀ e ∈ es.toList, e.key ≠ .int .i64 k) ∨ ∃ j e, (Instr.findKey 3 (.int .i64 k) es.toList).run Tryz.prog w = .ok (some (j, e.val)) w ∧ es.toList[j]? = some e ∧ e.key = .int .i64 k := fun w => intLaw.find w (keyI hk) es.toList E.law
  have hst := (stamped_iff es clock).1 E.st
  by_cases hin : ∃ e ∈ es.toList, e.key = .int .i64 k
  · obtain ⟨e0, he0, hk0⟩ := hin
    obtain ⟨j, hj⟩ := List.mem_iff_getElem?.1 he0
    have hjj : es[j]? = some e0 := by simpa using hj
    have huniq : ∀ {i : Nat} {e : MapEntry}, es.toList[i]? = some e → e.key = .int .i64 k → i = j := fun {i e} hi hke => by
      obtain ⟨hil, rfl⟩ := List.getElem?_eq_some_iff.1 hi
      obtain ⟨hjl, rfl⟩ := List.getElem?_eq_some_iff.1 hj
      rcases Nat.lt_trichotomy i j with h1 | h1 | h1
      · exact absurd (hke.trans hk0.symm) (List.pairwise_iff_getElem.1 hst.2.2 i j hil hjl h1)
      · exact h1
      · exact absurd (hk0.trans hke.symm) (List.pairwise_iff_getElem.1 hst.2.2 j i hjl hil h1)
    have hkeyf : ∀ e', es[j]? = some e' → ({ e' with key := .int .i64 k, val := .int .u64 (cnt l k + n : Nat) } : MapEntry).key = e'.key := fun e' he' => by rw [hjj] at he'; cases he'; exact hk0.symm
    have hlist : (es.modify j (fun e' => { e' with key := .int .i64 k, val := .int .u64 (cnt l k + n : Nat) })).toList = es.toList.set j { e0 with key := .int .i64 k, val := .int .u64 (cnt l k + n : Nat) } := by rw [Array.toList_modify, modify_eq_set _ _ _ _ hj]
    have hjl : j < es.toList.length := (List.getElem?_eq_some_iff.1 hj).1
    refine ⟨es.modify j (fun e' => { e' with key := .int .i64 k, val := .int .u64 (cnt l k + n : Nat) }), clock, ⟨stamped_modify E.st _ _ (fun _ _ => rfl) (fun e' _ he' => hkeyf e' he'), fun e he => ?_, fun x hx => ?_, hs2, hp2, hbd⟩, fun w v hv hb => ?_⟩
    · rw [hlist] at he
      obtain ⟨i, hi, ex⟩ := List.getElem_of_mem he
      rw [List.getElem_set] at ex
      split at ex
      · exact ⟨_, hnew, by rw [← ex], by rw [← ex]⟩
      · rename_i hne
        have hi' : i < es.toList.length := by simpa using hi
        have hm : e ∈ es.toList := ex ▸ List.getElem_mem hi'
        obtain ⟨x, hx, h1, h2⟩ := E.key e hm
        refine ⟨x, hold x hx fun e1 => hne ?_, h1, h2⟩
        exact (huniq (i := i) (e := e) (by rw [List.getElem?_eq_getElem hi', ex]) (by rw [h1, e1])).symm
    · rw [hlist]
      rcases put_mem hx with e | hx
      · exact ⟨{ e0 with key := .int .i64 k, val := .int .u64 (cnt l k + n : Nat) }, List.mem_iff_getElem.2 ⟨j, by simpa using hjl, by simp⟩, by rw [e]⟩
      · obtain ⟨e, he, h1⟩ := E.has x hx
        by_cases hxk : x.1 = k
        · exact ⟨{ e0 with key := .int .i64 k, val := .int .u64 (cnt l k + n : Nat) }, List.mem_iff_getElem.2 ⟨j, by simpa using hjl, by simp⟩, by rw [hxk]⟩
        · obtain ⟨i, hi, ex⟩ := List.getElem_of_mem he
          have hne : j ≠ i := fun e1 => hxk (by
            subst e1
            obtain ⟨_, e2⟩ := List.getElem?_eq_some_iff.1 hj
            rw [ex] at e2
            rw [e2, hk0] at h1
            simpa using h1.symm)
          exact ⟨e, List.mem_iff_getElem.2 ⟨i, by simpa using hi, by rw [List.getElem_set_ne hne]; exact ex⟩, h1⟩
    · subst hv
      rcases hK w with ⟨-, h2⟩ | ⟨j', e1, h1, h2, h3⟩
      · exact absurd hk0 (h2 e0 he0)
      · obtain rfl := huniq h2 h3
        rw [hj] at h2
        obtain rfl := Option.some.inj h2
        simp [Instr.mapUpdate, run_underlying Tryz.underlying59, MapKept.run_getObj_map hb, intLaw.check w false (keyI hk), h1, hjj, hk0, intLaw.stays w (keyI hk), MapKept.run_setObj_map _ hb, Result.andThen, setBlock]
  · have hno : ∀ e ∈ es.toList, e.key ≠ .int .i64 k := fun e he hke => hin ⟨e, he, hke⟩
    have hc0 := E.out hno
    refine ⟨es.push ⟨.int .i64 k, .int .u64 (cnt l k + n : Nat), clock⟩, clock + 1, ⟨stamped_push E.st hno, fun e he => ?_, fun x hx => ?_, hs2, hp2, hbd⟩, fun w v hv hb => ?_⟩
    · simp only [Array.toList_push, List.mem_append, List.mem_singleton] at he
      rcases he with he | rfl
      · obtain ⟨x, hx, h1, h2⟩ := E.key e he
        exact ⟨x, hold x hx fun e1 => hno e he (by rw [h1, e1]), h1, h2⟩
      · exact ⟨_, hnew, rfl, rfl⟩
    · simp only [Array.toList_push, List.mem_append, List.mem_singleton]
      rcases put_mem hx with e | hx
      · exact ⟨_, .inr rfl, by rw [e]⟩
      · obtain ⟨e, he, h1⟩ := E.has x hx
        exact ⟨e, .inl he, h1⟩
    · subst hv
      rcases hK w with ⟨h1, -⟩ | ⟨j, e1, h1, h2, h3⟩
      · simp [Instr.mapUpdate, run_underlying Tryz.underlying59, MapKept.run_getObj_map hb, intLaw.check w false (keyI hk), h1, MapKept.run_setObj_map _ hb, Result.andThen, setBlock]
      · exact absurd h3 (hno e1 (List.mem_of_getElem? h2))
end
theorem fr_setMap {w : World} {b : Nat} {es : Array MapEntry} {clock : Nat} {o' : Obj} (h : w.heap[b]? = some (.map es clock)) : (setBlock w b o').heap[b]? = some o' ∧ Fr (· = b) w (setBlock w b o') :=
  ⟨heap_setBlock_same h _, ⟨rfl, rfl, rfl, by simp [setBlock], fun k _ hk => heap_setBlock_other h _ hk⟩⟩
theorem MpI.fr {S : Nat → Prop} {w w' : World} {h : Nat} {l : List Pr} (m : MpI w h l) (f : Fr S w w') (hs : ¬ S h) : MpI w' h l := let ⟨es, clock, hb, E⟩ := m; ⟨es, clock, f.row hb hs, E⟩
theorem MpI.lt {w : World} {h : Nat} {l : List Pr} (m : MpI w h l) : h < w.heap.size := let ⟨_, _, hb, _⟩ := m; (Array.getElem?_eq_some_iff.1 hb).1
def Itr (w : World) (r h : Nat) (l D R : List Pr) : Prop := ∃ es clock seen, w.heap[h]? = some (.map es clock) ∧ MpE l es clock ∧ w.heap[r]? = some (.mapIter (some h) clock seen clock) ∧
  (∀ e ∈ es.toList, seen.contains e.born = true ↔ ∃ x ∈ D, e.key = .int .i64 x.1) ∧ (D ++ R).Perm l ∧ seen.size = D.length
theorem Itr.fr {S : Nat → Prop} {w w' : World} {r h : Nat} {l D R : List Pr} (i : Itr w r h l D R) (f : Fr S w w') (hr : ¬ S r) (hh : ¬ S h) : Itr w' r h l D R :=
  let ⟨es, clock, seen, h1, h2, h3, h4⟩ := i; ⟨es, clock, seen, f.row h1 hh, h2, f.row h3 hr, h4⟩
theorem Itr.fr0 {w w' : World} {r h : Nat} {l D R : List Pr} (i : Itr w r h l D R) (f : Fr S0 w w') : Itr w' r h l D R := i.fr f (fun h => h) fun h => h
theorem Itr.lt {w : World} {r h : Nat} {l D R : List Pr} (i : Itr w r h l D R) : r < w.heap.size := let ⟨_, _, _, _, _, h3, _⟩ := i; (Array.getElem?_eq_some_iff.1 h3).1
def came (w : World) (r : Nat) : Nat := match w.heap[r]? with | some (.mapIter _ _ seen _) => seen.size | _ => 0
theorem Itr.came {w : World} {r h : Nat} {l D R : List Pr} (i : Itr w r h l D R) : came w r = D.length ∧ D.length + R.length = l.length := by
  obtain ⟨es, clock, seen, h1, h2, h3, h4, h5, h6⟩ := i
  have := h5.length_eq
  rw [List.length_append] at this
  exact ⟨by simp [Proofs.YtnndgpggjlhhpaaGreat.came, h3, h6], this⟩
theorem MpI.range {w : World} {h : Nat} {l : List Pr} (m : MpI w h l) :
    ∃ w', (Instr.range 59 (.map (some h))).run Tryz.prog w = .ok (.pointer (some ⟨w.heap.size, 0, none⟩)) w' ∧ Itr w' w.heap.size h l [] l ∧ Fr S0 w w' := by
  have hlt := m.lt
  obtain ⟨es, clock, hb, E⟩ := m
  exact ⟨_, run_range_map w _ _ _ h es clock Tryz.underlying59 hb, ⟨es, clock, #[], ((MapKept.heap_alloc w _).2 h hlt).trans hb, E, (MapKept.heap_alloc w _).1, fun e _ => by simp, List.Perm.refl _, rfl⟩, Fr.alloc _ _ _⟩
theorem Itr.next {w : World} {r h : Nat} {l D R : List Pr} (i : Itr w r h l D R) (ty : TypeId) :
    (D.Perm l ∧ R = [] ∧ (Instr.next (.pointer (some ⟨r, 0, none⟩)) false ty).run Tryz.prog w = .ok (.tuple #[.bool false]) w) ∨
    ∃ x R' w', x ∈ l ∧ Itr w' r h l (D ++ [x]) R' ∧ Fr (· = r) w w' ∧ (Instr.next (.pointer (some ⟨r, 0, none⟩)) false ty).run Tryz.prog w = .ok (.tuple #[.bool true, .int .i64 x.1, .int .u64 (x.2 : Nat)]) w' ∧
      (Instr.entry (.pointer (some ⟨r, 0, none⟩))).run Tryz.prog w' = .ok (.tuple #[.int .i64 x.1, .int .u64 (x.2 : Nat)]) w' := by
  obtain ⟨es, clock, seen, h1, E, h3, h4, h5, h6⟩ := i
  have hst := (stamped_iff es clock).1 E.st
  have hnd := h5.symm.nodup (nodup_srt E.srt)
  have hne : r ≠ h := fun e => by rw [e, h1] at h3; cases h3
  rcases run_next_at (P := Tryz.prog) w ty r h clock clock seen es clock h3 h1 hst.1 (Nat.le_refl _) with ⟨h0, hrun⟩ | ⟨e, he, w1, hw1, hrun⟩
  · left
    have hall : ∀ x ∈ l, x ∈ D := fun x hx => by
      obtain ⟨e, he, hk⟩ := E.has x hx
      have : seen.contains e.born = true := by
        cases hc : seen.contains e.born with
        | true => rfl
        | false =>
          exfalso
          have : e ∈ (leftOf es seen).toList := by simp [leftOf] at he ⊢; exact ⟨he, by simpa using hc⟩
          have h7 := List.length_pos_of_mem this
          simp at h7
          omega
      obtain ⟨y, hy, hk2⟩ := (h4 e he).1 this
      rw [hk] at hk2
      simp only [Value.int.injEq, true_and] at hk2
      have hyl : y ∈ l := h5.mem_iff.1 (List.mem_append_left _ hy)
      have := cnt_mem E.srt hx
      rw [hk2, cnt_mem E.srt hyl] at this
      rw [show x = y from Prod.ext hk2 this.symm]
      exact hy
    have hR : R = [] := List.eq_nil_iff_forall_not_mem.2 fun x hx => by
      have := hall x (h5.mem_iff.1 (List.mem_append_right _ hx))
      exact (List.nodup_append.1 hnd).2.2 x this x hx rfl
    subst hR
    rw [List.append_nil] at h5
    exact ⟨h5, rfl, hrun⟩
  · right
    obtain ⟨hem, hes⟩ := mem_left he
    obtain ⟨x, hx, hk, hv⟩ := E.key e hem
    have hxD : x ∉ D := fun hm => by
      rw [(h4 e hem).2 ⟨x, hm, hk⟩] at hes
      cases hes
    have hxR : x ∈ R := (List.mem_append.1 (h5.mem_iff.2 hx)).resolve_left hxD
    have hp : (D ++ [x] ++ R.erase x).Perm l := by
      rw [List.append_assoc]
      exact ((List.perm_cons_erase hxR).symm.append_left D).trans h5
    have hf1 : Fr S0 w w1 := by
      rcases hw1 with e | e
      · rw [e]; exact Fr.refl _ _
      · rw [e]; exact Fr.drew _ _
    have k1 := hf1.row h1 fun h => h
    have k3 := hf1.row h3 fun h => h
    have ha : (setBlock w1 r (.mapIter (some h) clock (seen.push e.born) clock)).heap[r]? = some (.mapIter (some h) clock (seen.push e.born) clock) := by
      simp [setBlock, (Array.getElem?_eq_some_iff.1 k3).1]
    have hb : ∀ k, k ≠ r → (setBlock w1 r (.mapIter (some h) clock (seen.push e.born) clock)).heap[k]? = w1.heap[k]? := fun k hk => by
      simp only [setBlock, Array.getElem?_setIfInBounds]
      rw [if_neg fun e => hk e.symm]
    rw [hk, hv] at hrun
    refine ⟨x, R.erase x, _, hx, ⟨es, clock, seen.push e.born, (hb h (fun e => hne e.symm)).trans k1, E, ha, fun e' he' => ?_, hp, by simp [h6]⟩, ?_, hrun, ?_⟩
    · rw [Array.contains_push]
      simp only [Bool.or_eq_true, beq_iff_eq, List.mem_append, List.mem_singleton]
      rw [h4 e' he']
      constructor
      · rintro (⟨y, hy, h7⟩ | h7)
        · exact ⟨y, .inl hy, h7⟩
        · exact ⟨x, .inr rfl, by rw [born_inj hst.2.1 he' hem h7]; exact hk⟩
      · rintro ⟨y, hy | rfl, h7⟩
        · exact .inl ⟨y, hy, h7⟩
        · exact .inr (by rw [entry_eq_of_key hst.2.2 he' hem (h7.trans hk.symm)])
    · refine (hf1.mono fun _ _ h => h.elim).trans (T := (· = r)) ⟨rfl, rfl, rfl, by simp [setBlock], fun k _ hk => hb k hk⟩ fun _ _ h => h
    · rw [run_entry_at _ r h clock seen es clock e ha ((hb h (fun e => hne e.symm)).trans k1) hem hst.2.1, hk, hv]
section
variable (w : World) {ops : Array Oper} {rest : List Oper} {o : Oper} {a : Act} {Q : Exit → Act → World → Prop}
theorem wpList_range_mp (hg : o.guard = none) (m : Operand) (hop : o.op = Op.range 59 m) (h : Nat) (l : List Pr) (hm : a.eval m = .map (some h)) (mp : MpI w h l)
    (hK : ∀ w', Itr w' w.heap.size h l [] l → Fr S0 w w' → wpList Tryz.prog ops Q rest (a.put o.dst (.pointer (some ⟨w.heap.size, 0, none⟩))) w') : wpList Tryz.prog ops Q (o :: rest) a w := by
  refine wpList_plain hg fun K' hK' => ?_
  obtain ⟨w', hrun, r1, r2⟩ := mp.range
  unfold Oper.wp
  simp [execOp, hop, hm, hrun, Result.andThen]
  exact hK' _ _ (hK w' r1 r2)
theorem wpList_next_mp (hg : o.guard = none) (it : Operand) (hop : o.op = Op.next it false) (r h : Nat) (l D R : List Pr) (hit : a.eval it = .pointer (some ⟨r, 0, none⟩)) (i : Itr w r h l D R)
    (hDone : D.Perm l → R = [] → wpList Tryz.prog ops Q rest (a.put o.dst (.tuple #[.bool false])) w)
    (hMore : ∀ x R' w', x ∈ l → Itr w' r h l (D ++ [x]) R' → Fr (· = r) w w' → (Instr.entry (.pointer (some ⟨r, 0, none⟩))).run Tryz.prog w' = .ok (.tuple #[.int .i64 x.1, .int .u64 (x.2 : Nat)]) w' → wpList Tryz.prog ops Q rest (a.put o.dst (.tuple #[.bool true, .int .i64 x.1, .int .u64 (x.2 : Nat)])) w') :
    wpList Tryz.prog ops Q (o :: rest) a w := by
  refine wpList_plain hg fun K' hK' => ?_
  unfold Oper.wp
  rcases i.next o.type with ⟨h1, h2, hrun⟩ | ⟨x, R', w', hx, hi, hf, hrun, hen⟩
  · simp [execOp, hop, hit, hrun, Result.andThen]
    exact hK' _ _ (hDone h1 h2)
  · simp [execOp, hop, hit, hrun, Result.andThen]
    exact hK' _ _ (hMore x R' w' hx hi hf hen)
end
end Go.Proofs.YtnndgpggjlhhpaaGreat
