/- A list's block, and the functions that read it alone. -/
import Derived.Test.YtibgjmlgjmnheaaSpRefAdd
import Derived.Test.YtibgjmlgjmnheaaSpList
import Derived.Maps.AppendAt
import Derived.Lib.SliceRun
namespace Go.Proofs.Ytibgjmlgjmnheaa
open Go.RowKit
/-- what a store has beside its list: its budget, the least key, how much is folded into it -/
structure Sx where
  b : Nat
  k : Int
  f : Nat
variable {X : Sx}

/-- block g holds a list's fields -/
structure Raw (X : Sx) (w : World) (g : Nat) (p : Option Addr) (n c T : Nat) : Prop where
  blk : w.heap[g]? = some (.cells #[.int .i64 (X.b : Int), .slice p n c, .int .u64 (T : Int), .int .i64 X.k, .int .u64 (X.f : Int)] 63 (0, 0))
section
variable {w w' : World} {g : Nat} {p : Option Addr} {n c T : Nat} {S : Nat → Prop}
theorem Raw.c0 (h : Raw X w g p n c T) : w.cell? ⟨g, 1, none⟩ = some (.slice p n c) := by simp [World.cell?, h.blk]
theorem Raw.c1 (h : Raw X w g p n c T) : w.cell? ⟨g, 2, none⟩ = some (.int .u64 (T : Int)) := by simp [World.cell?, h.blk]
theorem Raw.fz (h : Raw X w g p n c T) (i : Nat) : w.frozen? ⟨g, i, none⟩ = false := by simp [World.frozen?, h.blk]
theorem Raw.fr (h : Raw X w g p n c T) (f : Fr S w w') (hs : ¬ S g) : Raw X w' g p n c T := ⟨f.row h.blk hs⟩
theorem Raw.fr0 (h : Raw X w g p n c T) (f : Fr S0 w w') : Raw X w' g p n c T := h.fr f fun h => h
theorem Raw.set0 (h : Raw X w g p n c T) (q : Option Addr) (m d : Nat) : Raw X (w.setCell ⟨g, 1, none⟩ (.slice q m d)) g q m d T := ⟨by rw [heap_setCell_same w g 1 _ _ _ h.blk]; rfl⟩
theorem Raw.set1 (h : Raw X w g p n c T) (U : Nat) : Raw X (w.setCell ⟨g, 2, none⟩ (.int .u64 (U : Int))) g p n c U := ⟨by rw [heap_setCell_same w g 2 _ _ _ h.blk]; rfl⟩
theorem Raw.lt (h : Raw X w g p n c T) : g < w.heap.size := (Array.getElem?_eq_some_iff.1 h.blk).1
end

/-- pairs that a list may hold -/
structure Good (l : List Pr) : Prop where
  srt : Srt l
  pos : Pos l
  tot : ltot l ≤ 4611686018427387904
  all : ∀ x ∈ l, -1048576 ≤ x.1 ∧ x.1 ≤ 1048576
theorem Good.nil : Good [] := ⟨srt_nil, pos_nil, by decide, fun _ h => by cases h⟩
theorem Good.len {l : List Pr} (h : Good l) : l.length ≤ 2097153 := by
  have := len_le h.srt h.all (by omega)
  omega
theorem Good.put {l : List Pr} (h : Good l) {k : Int} {n : Nat} (hn : 0 < n) (ht : ltot l + n ≤ 4611686018427387904) (hk : -1048576 ≤ k ∧ k ≤ 1048576) : Good (lput l k n) :=
  ⟨put_srt h.srt, put_pos h.pos hn, by rw [tot_put]; exact ht, fun x hx => by
    rcases put_mem hx with e | hx
    · rw [e]; exact hk
    · exact h.all x hx⟩
theorem Good.puts {l m : List Pr} (h : Good l) (k : Good m) (ht : ltot l + ltot m ≤ 4611686018427387904) : Good (lputs l m) :=
  ⟨putAll_srt h.srt m, putAll_pos h.pos k.pos, by rw [tot_putAll]; exact ht, fun x hx => by
    rcases putAll_mem m l x hx with ⟨y, hy, e⟩ | hx
    · rw [← e]; exact k.all y hy
    · exact h.all x hx⟩
theorem Good.cut {l : List Pr} (h : Good l) {m : Nat} (hm : 1 ≤ m) : Good (cutN l m) :=
  ⟨cut_srt h.srt h.pos hm, cut_pos h.srt h.pos hm, by rw [cut_tot h.srt h.pos hm]; exact h.tot, fun x hx => by
    obtain ⟨y, hy, e⟩ := cut_mem h.srt h.pos hm hx
    rw [← e]; exact h.all y hy⟩

/-- block g is a list that holds l; its row is block h -/
structure Sto (X : Sx) (w : World) (g h : Nat) (p : Option Addr) (n c : Nat) (l : List Pr) : Prop where
  raw : Raw X w g p n c (ltot l)
  own : w.ownsRow 0 53 2 (.slice p n c) n (prs l)
  row : ∀ a, p = some a → a.block = h
  apart : p ≠ none → h ≠ g
  ok : Good l
section
variable {w w' : World} {g h : Nat} {p : Option Addr} {n c : Nat} {l : List Pr} {S : Nat → Prop}
theorem Sto.fr (s : Sto X w g h p n c l) (f : Fr S w w') (h1 : ¬ S g) (h2 : p ≠ none → ¬ S h) : Sto X w' g h p n c l :=
  ⟨s.raw.fr f h1, f.owns s.own fun k hk => by
    cases p with
    | none => cases hk
    | some a =>
      obtain rfl : a.block = k := Option.some.inj hk
      rw [s.row a rfl]
      exact h2 (by simp), s.row, s.apart, s.ok⟩
theorem Sto.fr0 (s : Sto X w g h p n c l) (f : Fr S0 w w') : Sto X w' g h p n c l := s.fr f (fun h => h) fun _ h => h
theorem Sto.len (s : Sto X w g h p n c l) : l.length = n := by have := s.own.1; rw [prs_len] at this; omega
theorem Sto.small (s : Sto X w g h p n c l) : n ≤ 2097153 := by rw [← s.len]; exact s.ok.len
theorem Sto.pri (s : Sto X w g h p n c l) : PrI w p l := PrI.ofOwns s.own (by have := s.small; unfold maxLen; omega)
theorem Sto.cap (s : Sto X w g h p n c l) : n ≤ c ∧ c ≤ maxLen := by
  rcases s.own.2 with ⟨h1, h2⟩ | ⟨g', cap, cur, h1, -, -, h3, h4, -⟩
  · obtain ⟨-, h3, h4⟩ := Value.slice.inj h1
    subst h4
    exact ⟨by omega, by decide⟩
  · obtain ⟨-, -, h5⟩ := Value.slice.inj h1
    subst h5
    exact ⟨h3, h4⟩
theorem Sto.base (s : Sto X w g h p n c l) : (p = none ∧ n = 0 ∧ c = 0 ∧ l = []) ∨ p = some ⟨h, 0, none⟩ := by
  rcases s.own.2 with ⟨h1, h2⟩ | ⟨g', cap, cur, h1, -⟩
  · obtain ⟨h3, -, h4⟩ := Value.slice.inj h1
    exact .inl ⟨h3, h2, h4, List.eq_nil_of_length_eq_zero (s.len.trans h2)⟩
  · obtain ⟨h3, -, -⟩ := Value.slice.inj h1
    refine .inr ?_
    rw [h3, ← s.row _ h3]
end
/-- block g is a list that holds l; its row is block h -/
def StIs (X : Sx) (w : World) (g h : Nat) (l : List Pr) : Prop := ∃ p n c, Sto X w g h p n c l
theorem StIs.fr {S : Nat → Prop} {w w' : World} {g h : Nat} {l : List Pr} (s : StIs X w g h l) (f : Fr S w w') (h1 : ¬ S g) (h2 : ¬ S h) : StIs X w' g h l :=
  let ⟨p, n, c, s⟩ := s; ⟨p, n, c, s.fr f h1 fun _ => h2⟩
theorem StIs.fr0 {w w' : World} {g h : Nat} {l : List Pr} (s : StIs X w g h l) (f : Fr S0 w w') : StIs X w' g h l := s.fr f (fun h => h) fun h => h
theorem StIs.ok {w : World} {g h : Nat} {l : List Pr} (s : StIs X w g h l) : Good l := let ⟨_, _, _, s⟩ := s; s.ok
theorem StIs.lt {w : World} {g h : Nat} {l : List Pr} (s : StIs X w g h l) : g < w.heap.size := let ⟨_, _, _, s⟩ := s; s.raw.lt
theorem StIs.zero {w : World} {g : Nat} (h : Nat) (r : Raw X w g none 0 0 0) : StIs X w g h [] :=
  ⟨none, 0, 0, r, World.ownsRow_nil _ _ _ _, (fun _ h => (by cases h)), fun h => absurd rfl h, Good.nil⟩

/-- a list that has come to hold l -/
structure Turned (X : Sx) (w w' : World) (g h h' : Nat) (l : List Pr) : Prop where
  sto : StIs X w' g h' l
  row : h' = h ∨ (w.heap.size ≤ h' ∧ h' < w'.heap.size)
  fr : Fr (fun x => x = g ∨ x = h) w w'
theorem Turned.same {w w' : World} {g h : Nat} {l : List Pr} (s : StIs X w g h l) (f : Fr S0 w w') : Turned X w w' g h h l := ⟨s.fr0 f, .inl rfl, f.mono fun _ _ h => h.elim⟩

/-- what a slice of pairs holds, cell by cell -/
theorem PrI.cells {w : World} {b o : Nat} {l : List Pr} (h : PrI w (some ⟨b, o, none⟩) l) : ∀ j u, (prs l)[j]? = some u → w.cell? ((⟨b, o, none⟩ : Addr).add j) = some u := by
  intro j u hu
  obtain ⟨i, hi, hc⟩ := prs_get l j u hu
  obtain ⟨b', o', hp, c0, c1⟩ := h.at i hi
  simp only [Option.some.injEq, Addr.mk.injEq] at hp
  obtain ⟨rfl, rfl, -⟩ := hp
  have hadd : (⟨b, o, none⟩ : Addr).add j = ⟨b, o + j, none⟩ := by unfold Addr.add; split <;> simp_all
  rw [hadd]
  rcases hc with ⟨rfl, rfl⟩ | ⟨rfl, rfl⟩
  · exact c0
  · rw [← Nat.add_assoc]; exact c1
theorem PrI.take {w : World} {p : Option Addr} {l : List Pr} (h : PrI w p l) (i : Nat) : PrI w p (l.take i) :=
  ⟨Nat.le_trans (by rw [List.length_take]; omega) h.len, fun hl => by
    obtain ⟨b, o, hp, hc⟩ := h.cel (fun e => hl (by rw [e]; simp))
    refine ⟨b, o, hp, fun j hj => ?_⟩
    have hj' : j < l.length := by rw [List.length_take] at hj; omega
    have := hc j hj'
    simpa using this⟩
theorem PrI.drop {w : World} {b o : Nat} {l : List Pr} (h : PrI w (some ⟨b, o, none⟩) l) (i : Nat) : PrI w (some ⟨b, o + i * 2, none⟩) (l.drop i) :=
  ⟨Nat.le_trans (by rw [List.length_drop]; omega) h.len, fun hl => by
    refine ⟨b, o + i * 2, rfl, fun j hj => ?_⟩
    have hj' : i + j < l.length := by rw [List.length_drop] at hj; omega
    obtain ⟨b', o', hp, c0, c1⟩ := h.at (i + j) hj'
    simp only [Option.some.injEq, Addr.mk.injEq] at hp
    obtain ⟨rfl, rfl, -⟩ := hp
    have e : o + i * 2 + j * 2 = o + (i + j) * 2 := by omega
    rw [e]
    simpa using ⟨c0, c1⟩⟩

section
variable (g h : Nat) (l : List Pr) (w : World)
set_option maxRecDepth 100000 in
set_option maxHeartbeats 400000 in
theorem total_any (s : StIs X w g h l) : Calls Try.prog 38 #[.pointer (some ⟨g, 1, none⟩)] w fun e w' => e = .returned (.int .u64 (ltot l : Nat)) ∧ Fr S0 w w' := by
  obtain ⟨p, n, c, s⟩ := s
  have c1 := s.raw.c1
  clear s
  go_enter Try.func38, Try.ntmps38
  go_wp2_with fail
  go_ret
  exact ⟨rfl, Fr.refl _ _⟩
set_option maxRecDepth 100000 in
set_option maxHeartbeats 400000 in
theorem len_any (s : StIs X w g h l) : Calls Try.prog 53 #[.pointer (some ⟨g, 1, none⟩)] w fun e w' => e = .returned (.int .i64 (l.length : Nat)) ∧ Fr S0 w w' := by
  obtain ⟨p, n, c, s⟩ := s
  have c0 := s.raw.c0
  rw [s.len]
  clear s
  go_enter Try.func53, Try.ntmps53
  go_wp2_with fail
  go_ret
  exact ⟨rfl, Fr.refl _ _⟩
set_option maxRecDepth 100000 in
set_option maxHeartbeats 400000 in
theorem beyond_any (n : Nat) (s : StIs X w g h l) : Calls Try.prog 50 #[.pointer (some ⟨g, 1, none⟩), .int .u64 (n : Nat)] w fun e w' => e = .returned (.bool (decide (4611686018427387904 - ltot l < n))) ∧ w' = w := by
  obtain ⟨p, m, c, s⟩ := s
  have c1 := s.raw.c1
  have ht := s.ok.tot
  obtain ⟨T, hT⟩ : ∃ T, ltot l = T := ⟨_, rfl⟩
  obtain ⟨K, hK⟩ : ∃ K, 4611686018427387904 - T = K := ⟨_, rfl⟩
  rw [hT] at c1 ht ⊢
  rw [hK]
  have eK : (4611686018427387904 : Int) - (T : Int) = (K : Int) := by omega
  have hkm : (K : Int) ≤ 4611686018427387904 := by omega
  clear s hT hK
  go_enter Try.func50, Try.ntmps50
  go_wp2_with fail
  go_ret
  exact ⟨by simp, rfl⟩
end

set_option maxRecDepth 100000 in
set_option maxHeartbeats 1000000 in
theorem sum_any (p : Option Addr) (n c : Nat) (l : List Pr) (w : World) (h : PrI w p l) (hn : l.length = n) (ht : ltot l < 18446744073709551616) :
    Calls Try.prog 58 #[.slice p n c] w fun e w' => e = .returned (.int .u64 (ltot l : Nat)) ∧ Fr S0 w w' := by
  have H := Lib.hid h
  have HN := Lib.hid hn
  have HT := Lib.hid ht
  have hlen := h.len
  rw [hn] at hlen
  unfold maxLen at hlen
  clear h hn ht
  go_enter Try.func58, Try.ntmps58
  go_wp2_with fail
  go_loopw [3, 5, 8] (fun s _ i wr => ∃ j T : Nat, j ≤ n ∧ i = .int .i64 j ∧ s = .int .u64 T ∧ Hid (ltot (l.take j) = T) ∧ Hid (Fr S0 w wr)) (fun _ _ i _ => n - (intOf i).toNat)
  case atStart => exact ⟨0, 0, by omega, rfl, rfl, (by first | exact Lib.hid rfl | exact Lib.hid trivial), Lib.hid (Fr.refl _ _)⟩
  case round =>
    obtain ⟨j, T, hj, rfl, rfl, hT, hfr⟩ := hrel
    by_cases hjn : (j : Int) < (n : Int)
    · have hjl : j < l.length := by rw [HN.out]; omega
      obtain ⟨b, o, rfl, c0, c1⟩ := (H.out.fr0 hfr.out).at j hjl
      have HD := Lib.hid (tot_take hjl)
      have hle := tot_take_le l (j + 1)
      rw [HD.out, hT.out] at hle
      obtain ⟨⟨tk, tn⟩, ht⟩ : ∃ t, l[j] = t := ⟨_, rfl⟩
      rw [ht] at c0 c1 HD hle
      have hlt : T + tn < 18446744073709551616 := by have := HT.out; simp only at hle; omega
      clear ht hle
      simp only at c0 c1 hlt HD
      have HDD : Hid (ltot (l.take (j + 1)) = T + tn) := Lib.hid (by rw [HD.out, hT.out])
      clear HD hT
      go_wp2_with fail
      go_roundw
      case rel => exact ⟨j + 1, T + tn, by omega, by go_num, by go_num, HDD, Lib.hid (hfr.out.trans0 (Fr.alloc _ _ _))⟩
      case measure => simp [intOf]; omega
    · obtain rfl : j = n := by omega
      have HV : Hid (ltot l = T) := Lib.hid (by rw [← hT.out, ← HN.out, List.take_length])
      clear hT
      go_wp2_with fail
      go_ret
      exact ⟨by first | (rw [HV.out]; done) | (rw [HV.out]; rfl), hfr.out⟩

set_option maxRecDepth 100000 in
set_option maxHeartbeats 1000000 in
theorem clone_any (p : Option Addr) (n c : Nat) (l : List Pr) (w : World) (h : PrI w p l) (hn : l.length = n) (hm : n ≤ 1099511627776) (hc : p = none → c = 0) :
    Calls Try.prog 56 #[.slice p n c] w fun e w' => ∃ q d, e = .returned (.slice q n d) ∧ PrsNew w w' q d n l := by
  obtain ⟨i, hi, hz, hsz, hb⟩ := info_parts info_pr
  cases p with
  | none =>
    have hl : l = [] := by
      by_cases hl : l = []
      · exact hl
      · obtain ⟨b, off, hp, _⟩ := h.cel hl
        cases hp
    subst hl
    obtain rfl := hc rfl
    obtain rfl : 0 = n := hn
    have hnil : ∀ W, (binOp .eql 36 (.slice none 0 0) (.slice none 0 0)).run Try.prog W = .ok (.bool true) W := fun W => Lib.run_eql_slice_nil W _ _ none 0 0 0 0 Try.underlying36
    clear h hm hc hi hz hsz hb
    go_enter Try.func56, Try.ntmps56
    go_wp2_with fail
    go_ret
    exact ⟨none, 0, rfl, World.ownsRow_nil _ _ _ _, rfl, (fun _ h => by cases h), Fr.refl _ _⟩
  | some a =>
    have HX : Hid (∀ o, ∀ j u, (prs l)[j]? = some u → (w.alloc o).cell? (a.add j) = some u) := Lib.hid fun o j u hu => by
      have hl : l ≠ [] := by rintro rfl; simp [prs] at hu
      obtain ⟨b, off, hp, -⟩ := h.cel hl
      obtain rfl := Option.some.inj hp
      exact (h.fr0 (Fr.alloc S0 w o)).cells j u hu
    have HL : Hid ((prs l).length = n * 2) := Lib.hid (by rw [prs_len, hn])
    have HLL : Hid (l.length = n) := Lib.hid hn
    have HM : Hid (0 + n ≤ maxLen ∧ (0 + n) * 16 ≤ 140737488355328) := Lib.hid ⟨by unfold maxLen; omega, by omega⟩
    have HO : Hid ((w.alloc (.cells #[] 53)).ownsRow 0 53 2 (.slice (some ⟨w.heap.size, 0, none⟩) 0 0) 0 []) := Lib.hid (World.ownsRow_made w #[] 0 (Nat.zero_le _) (by decide) rfl)
    have HI := Lib.hid hi
    have HZ := Lib.hid hz
    have hnil : ∀ W, (binOp .eql 36 (.slice (some a) n c) (.slice none 0 0)).run Try.prog W = .ok (.bool false) W := fun W => Lib.run_eql_slice_nil W _ _ (some a) n c 0 0 Try.underlying36
    clear h hn hm hc hi hz
    go_enter Try.func56, Try.ntmps56
    go_wp2_with (at_builtin; refine wpList_append_own_at _ rfl (.tmp 5) (.tmp 6) 36 rfl 0 53 i _ 2 16 Try.underlying36 HI.out HZ.out hsz hb rfl (by decide) _ 0 [] rfl HO.out a n c (prs l) rfl HL.out (HX.out _) (prs_one l) HM.out.1 HM.out.2 (Nat.zero_le _) ?_; intro v' w1 hown hgrow hnil hat; have H1 := Lib.hid (And.intro hown (And.intro hgrow hat)); clear hown hgrow hnil hat)
    go_ret
    obtain ⟨hown, hgrow, hat⟩ := H1.out
    rw [List.nil_append, Nat.zero_add] at hown
    obtain ⟨q, d, rfl⟩ := slFormN hown
    refine ⟨q, d, rfl, hown, HLL.out, fun x hx => ?_, (Fr.alloc S0 w _).append hgrow fun k hk => by obtain rfl := Option.some.inj hk; exact Nat.le_refl _⟩
    subst hx
    rcases hat with h1 | h1
    · have h2 : x.block = w.heap.size := Option.some.inj h1
      omega
    · have h2 : x.block = _ := Option.some.inj h1
      rw [size_alloc] at h2
      omega
set_option maxRecDepth 100000 in
set_option maxHeartbeats 1000000 in
theorem pairs_any (g h : Nat) (l : List Pr) (w : World) (s : StIs X w g h l) :
    Calls Try.prog 41 #[.pointer (some ⟨g, 1, none⟩)] w fun e w' => ∃ p c n, e = .returned (.slice p n c) ∧ PrsNew w w' p c n l := by
  obtain ⟨p, n, c, s⟩ := s
  have c0 := s.raw.c0
  have HC := Lib.hid (clone_any p n c l w s.pri s.len (by have := s.small; omega) fun e => by
    rcases s.base with h | h
    · exact h.2.2.1
    · rw [e] at h; cases h)
  clear s
  go_enter Try.func41, Try.ntmps41
  go_wp2_with fail
  refine HC.out.mono ?_
  rintro e w1 ⟨q, d, rfl, hp⟩
  have HP := Lib.hid hp
  clear hp HC
  go_wp2_with fail
  go_ret
  exact ⟨q, d, n, rfl, HP.out⟩
end Go.Proofs.Ytibgjmlgjmnheaa
