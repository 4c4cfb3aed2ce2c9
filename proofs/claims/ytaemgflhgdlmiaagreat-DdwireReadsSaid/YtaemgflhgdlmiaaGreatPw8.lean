/- SpSto, SpFind, SpPlace -/
import Derived.Test.YtaemgflhgdlmiaaGreatPw1
import Derived.Test.YtaemgflhgdlmiaaGreatPw2
import Derived.Test.YtaemgflhgdlmiaaGreatPw4
import Derived.Test.YtaemgflhgdlmiaaGreatPw5
import Derived.Test.YtaemgflhgdlmiaaGreatPw6
import Derived.Test.YtaemgflhgdlmiaaGreatPw7
import Derived.Maps.AppendAt
import Derived.Lib.SliceRun
import Derived.StillTailTactics
import Derived.BigRegion
import Derived.WalkKit
import Derived.WalkSpells
import Derived.WalkLawsBesides
import Derived.Deep.QuietTactic
import Derived.BigQuiet
import Derived.RegionTactic
import Derived.Deep.AppendLies
import Derived.Deep.RegionLaw
import Derived.Laws.ResultCell
import Derived.Laws.EntriesVeiled
import Derived.Lib.Hide
import Derived.Test.YtaemgflhgdlmiaaGreatRows
import Derived.Laws.BytesArg
import Derived.Lib.SlBytesConst
import Derived.Laws.AppendOwnNone
import Derived.Deep.RegionHeld3
set_option maxRecDepth 100000
set_option maxHeartbeats 8000000
namespace Go.Proofs.YtaemgflhgdlmiaaGreat
open Go.RowKit
structure Ex where
  a : Nat
  p : Option Addr
  n : Nat
  c : Nat
structure Sx where
  b : Nat
  k : Int
  f : Nat
  e : Ex
variable {X : Sx}
structure Raw (X : Sx) (w : World) (g : Nat) (p : Option Addr) (n c T : Nat) : Prop where
  blk : w.heap[g]? = some (.cells #[.int .i64 (X.e.a : Int), .slice X.e.p X.e.n X.e.c, .int .i64 (X.b : Int), .slice p n c, .int .u64 (T : Int), .int .i64 X.k, .int .u64 (X.f : Int)] 101 (0, 0))
section
variable {w w' : World} {g : Nat} {p : Option Addr} {n c T : Nat} {S : Nat → Prop}
theorem Raw.c0 (h : Raw X w g p n c T) : w.cell? ⟨g, 3, none⟩ = some (.slice p n c) := by simp [World.cell?, h.blk]
theorem Raw.c1 (h : Raw X w g p n c T) : w.cell? ⟨g, 4, none⟩ = some (.int .u64 (T : Int)) := by simp [World.cell?, h.blk]
theorem Raw.fz (h : Raw X w g p n c T) (i : Nat) : w.frozen? ⟨g, i, none⟩ = false := by simp [World.frozen?, h.blk]
theorem Raw.fr (h : Raw X w g p n c T) (f : Fr S w w') (hs : ¬ S g) : Raw X w' g p n c T := ⟨f.row h.blk hs⟩
theorem Raw.fr0 (h : Raw X w g p n c T) (f : Fr S0 w w') : Raw X w' g p n c T := h.fr f fun h => h
theorem Raw.set0 (h : Raw X w g p n c T) (q : Option Addr) (m d : Nat) : Raw X (w.setCell ⟨g, 3, none⟩ (.slice q m d)) g q m d T := ⟨by rw [heap_setCell_same w g 3 _ _ _ h.blk]; rfl⟩
theorem Raw.set1 (h : Raw X w g p n c T) (U : Nat) : Raw X (w.setCell ⟨g, 4, none⟩ (.int .u64 (U : Int))) g p n c U := ⟨by rw [heap_setCell_same w g 4 _ _ _ h.blk]; rfl⟩
theorem Raw.lt (h : Raw X w g p n c T) : g < w.heap.size := (Array.getElem?_eq_some_iff.1 h.blk).1
end
structure Good (l : List Pr) : Prop where
  srt : Srt l
  pos : Pos l
  tot : ltot l ≤ 4611686018427387904
  all : ∀ x ∈ l, -1048576 ≤ x.1 ∧ x.1 ≤ 1048576
theorem Good.nil : Good [] := ⟨srt_nil, pos_nil, by decide, fun _ h => by cases h⟩
theorem Good.len {l : List Pr} (h : Good l) : l.length ≤ 2097153 := by
  have := len_le h.srt h.all (by omega)
  omega
theorem Good.put {l : List Pr} (h : Good l) {k : Int} {n : Nat} (hn : 0 < n) (ht : ltot l + n ≤ 4611686018427387904) (hk : -1048576 ≤ k ∧ k ≤ 1048576) : Good (lput l k n) :=
  ⟨put_srt h.srt, put_pos h.pos hn, by rw [tot_put]; exact ht, fun x hx => by
    rcases put_mem hx with e | hx
    · rw [e]; exact hk
    · exact h.all x hx⟩
theorem Good.cut {l : List Pr} (h : Good l) {m : Nat} (hm : 1 ≤ m) : Good (cutN l m) :=
  ⟨cut_srt h.srt h.pos hm, cut_pos h.srt h.pos hm, by rw [cut_tot h.srt h.pos hm]; exact h.tot, fun x hx => by
    obtain ⟨y, hy, e⟩ := cut_mem h.srt h.pos hm hx
    rw [← e]; exact h.all y hy⟩
structure Sto (X : Sx) (w : World) (g h : Nat) (p : Option Addr) (n c : Nat) (l : List Pr) : Prop where
  raw : Raw X w g p n c (ltot l)
  own : w.ownsRow 0 67 2 (.slice p n c) n (prs l)
  row : ∀ a, p = some a → a.block = h
  apart : p ≠ none → h ≠ g
  ok : Good l
section
variable {w w' : World} {g h : Nat} {p : Option Addr} {n c : Nat} {l : List Pr} {S : Nat → Prop}
theorem Sto.fr (s : Sto X w g h p n c l) (f : Fr S w w') (h1 : ¬ S g) (h2 : p ≠ none → ¬ S h) : Sto X w' g h p n c l :=
  ⟨s.raw.fr f h1, f.owns s.own fun k hk => by
    cases p with
    | none => cases hk
    | some a =>
      obtain rfl : a.block = k := Option.some.inj hk
      rw [s.row a rfl]
      exact h2 (by simp), s.row, s.apart, s.ok⟩
theorem Sto.fr0 (s : Sto X w g h p n c l) (f : Fr S0 w w') : Sto X w' g h p n c l := s.fr f (fun h => h) fun _ h => h
theorem Sto.len (s : Sto X w g h p n c l) : l.length = n := by have := s.own.1; rw [prs_len] at this; omega
theorem Sto.small (s : Sto X w g h p n c l) : n ≤ 2097153 := by rw [← s.len]; exact s.ok.len
theorem Sto.pri (s : Sto X w g h p n c l) : PrI w p l := PrI.ofOwns s.own (by have := s.small; unfold maxLen; omega)
theorem Sto.cap (s : Sto X w g h p n c l) : n ≤ c ∧ c ≤ maxLen := by
  rcases s.own.2 with ⟨h1, h2⟩ | ⟨g', cap, cur, h1, -, -, h3, h4, -⟩
  · obtain ⟨-, h3, h4⟩ := Value.slice.inj h1
    subst h4
    exact ⟨by omega, by decide⟩
  · obtain ⟨-, -, h5⟩ := Value.slice.inj h1
    subst h5
    exact ⟨h3, h4⟩
theorem Sto.base (s : Sto X w g h p n c l) : (p = none ∧ n = 0 ∧ c = 0 ∧ l = []) ∨ p = some ⟨h, 0, none⟩ := by
  rcases s.own.2 with ⟨h1, h2⟩ | ⟨g', cap, cur, h1, -⟩
  · obtain ⟨h3, -, h4⟩ := Value.slice.inj h1
    exact .inl ⟨h3, h2, h4, List.eq_nil_of_length_eq_zero (s.len.trans h2)⟩
  · obtain ⟨h3, -, -⟩ := Value.slice.inj h1
    refine .inr ?_
    rw [h3, ← s.row _ h3]
end
def StIs (X : Sx) (w : World) (g h : Nat) (l : List Pr) : Prop := ∃ p n c, Sto X w g h p n c l
theorem StIs.fr {S : Nat → Prop} {w w' : World} {g h : Nat} {l : List Pr} (s : StIs X w g h l) (f : Fr S w w') (h1 : ¬ S g) (h2 : ¬ S h) : StIs X w' g h l :=
  let ⟨p, n, c, s⟩ := s; ⟨p, n, c, s.fr f h1 fun _ => h2⟩
theorem StIs.fr0 {w w' : World} {g h : Nat} {l : List Pr} (s : StIs X w g h l) (f : Fr S0 w w') : StIs X w' g h l := s.fr f (fun h => h) fun h => h
theorem StIs.ok {w : World} {g h : Nat} {l : List Pr} (s : StIs X w g h l) : Good l := let ⟨_, _, _, s⟩ := s; s.ok
theorem StIs.lt {w : World} {g h : Nat} {l : List Pr} (s : StIs X w g h l) : g < w.heap.size := let ⟨_, _, _, s⟩ := s; s.raw.lt
theorem StIs.zero {w : World} {g : Nat} (h : Nat) (r : Raw X w g none 0 0 0) : StIs X w g h [] :=
  ⟨none, 0, 0, r, World.ownsRow_nil _ _ _ _, (fun _ h => (by cases h)), fun h => absurd rfl h, Good.nil⟩
structure Turned (X : Sx) (w w' : World) (g h h' : Nat) (l : List Pr) : Prop where
  sto : StIs X w' g h' l
  row : h' = h ∨ (w.heap.size ≤ h' ∧ h' < w'.heap.size)
  fr : Fr (fun x => x = g ∨ x = h) w w'
theorem Turned.same {w w' : World} {g h : Nat} {l : List Pr} (s : StIs X w g h l) (f : Fr S0 w w') : Turned X w w' g h h l := ⟨s.fr0 f, .inl rfl, f.mono fun _ _ h => h.elim⟩
theorem PrI.cells {w : World} {b o : Nat} {l : List Pr} (h : PrI w (some ⟨b, o, none⟩) l) : ∀ j u, (prs l)[j]? = some u → w.cell? ((⟨b, o, none⟩ : Addr).add j) = some u := by
  intro j u hu
  obtain ⟨i, hi, hc⟩ := prs_get l j u hu
  obtain ⟨b', o', hp, c0, c1⟩ := h.at i hi
  simp only [Option.some.injEq, Addr.mk.injEq] at hp
  obtain ⟨rfl, rfl, -⟩ := hp
  have hadd : (⟨b, o, none⟩ : Addr).add j = ⟨b, o + j, none⟩ := by unfold Addr.add; split <;> simp_all
  rw [hadd]
  rcases hc with ⟨rfl, rfl⟩ | ⟨rfl, rfl⟩
  · exact c0
  · rw [← Nat.add_assoc]; exact c1
theorem PrI.take {w : World} {p : Option Addr} {l : List Pr} (h : PrI w p l) (i : Nat) : PrI w p (l.take i) :=
  ⟨Nat.le_trans (by rw [List.length_take]; omega) h.len, fun hl => by
    obtain ⟨b, o, hp, hc⟩ := h.cel (fun e => hl (by rw [e]; simp))
    refine ⟨b, o, hp, fun j hj => ?_⟩
    have hj' : j < l.length := by rw [List.length_take] at hj; omega
    have := hc j hj'
    simpa using this⟩
theorem PrI.drop {w : World} {b o : Nat} {l : List Pr} (h : PrI w (some ⟨b, o, none⟩) l) (i : Nat) : PrI w (some ⟨b, o + i * 2, none⟩) (l.drop i) :=
  ⟨Nat.le_trans (by rw [List.length_drop]; omega) h.len, fun hl => by
    refine ⟨b, o + i * 2, rfl, fun j hj => ?_⟩
    have hj' : i + j < l.length := by rw [List.length_drop] at hj; omega
    obtain ⟨b', o', hp, c0, c1⟩ := h.at (i + j) hj'
    simp only [Option.some.injEq, Addr.mk.injEq] at hp
    obtain ⟨rfl, rfl, -⟩ := hp
    have e : o + i * 2 + j * 2 = o + (i + j) * 2 := by omega
    rw [e]
    simpa using ⟨c0, c1⟩⟩
section
variable (g h : Nat) (l : List Pr) (w : World)
theorem total_any (s : StIs X w g h l) : Calls Tryz.prog 82 #[.pointer (some ⟨g, 3, none⟩)] w fun e w' => e = .returned (.int .u64 (ltot l : Nat)) ∧ Fr S0 w w' := by
  obtain ⟨p, n, c, s⟩ := s
  have c1 := s.raw.c1
  clear s
  go_enter Tryz.func82, Tryz.ntmps82
  go_wp2_with fail
  go_ret
  exact ⟨rfl, Fr.refl _ _⟩
theorem beyond_any (n : Nat) (s : StIs X w g h l) : Calls Tryz.prog 119 #[.pointer (some ⟨g, 3, none⟩), .int .u64 (n : Nat)] w fun e w' => e = .returned (.bool (decide (4611686018427387904 - ltot l < n))) ∧ w' = w := by
  obtain ⟨p, m, c, s⟩ := s
  have c1 := s.raw.c1
  have ht := s.ok.tot
  obtain ⟨T, hT⟩ : ∃ T, ltot l = T := ⟨_, rfl⟩
  obtain ⟨K, hK⟩ : ∃ K, 4611686018427387904 - T = K := ⟨_, rfl⟩
  rw [hT] at c1 ht ⊢
  rw [hK]
  have eK : (4611686018427387904 : Int) - (T : Int) = (K : Int) := by omega
  have hkm : (K : Int) ≤ 4611686018427387904 := by omega
  clear s hT hK
  go_enter Tryz.func119, Tryz.ntmps119
  go_wp2_with fail
  go_ret
  exact ⟨by simp, rfl⟩
end
theorem sum_any (p : Option Addr) (n c : Nat) (l : List Pr) (w : World) (h : PrI w p l) (hn : l.length = n) (ht : ltot l < 18446744073709551616) :
    Calls Tryz.prog 124 #[.slice p n c] w fun e w' => e = .returned (.int .u64 (ltot l : Nat)) ∧ Fr S0 w w' := by
  have H := Lib.hid h
  have HN := Lib.hid hn
  have HT := Lib.hid ht
  have hlen := h.len
  rw [hn] at hlen
  unfold maxLen at hlen
  clear h hn ht
  go_enter Tryz.func124, Tryz.ntmps124
  go_wp2_with fail
  go_loopw [3, 5, 8] (fun s _ i wr => ∃ j T : Nat, j ≤ n ∧ i = .int .i64 j ∧ s = .int .u64 T ∧ Hid (ltot (l.take j) = T) ∧ Hid (Fr S0 w wr)) (fun _ _ i _ => n - (intOf i).toNat)
  case atStart => exact ⟨0, 0, by omega, rfl, rfl, (by first | exact Lib.hid rfl | exact Lib.hid trivial), Lib.hid (Fr.refl _ _)⟩
  case round =>
    obtain ⟨j, T, hj, rfl, rfl, hT, hfr⟩ := hrel
    by_cases hjn : (j : Int) < (n : Int)
    · have hjl : j < l.length := by rw [HN.out]; omega
      obtain ⟨b, o, rfl, c0, c1⟩ := (H.out.fr0 hfr.out).at j hjl
      have HD := Lib.hid (tot_take hjl)
      have hle := tot_take_le l (j + 1)
      rw [HD.out, hT.out] at hle
      obtain ⟨⟨tk, tn⟩, ht⟩ : ∃ t, l[j] = t := ⟨_, rfl⟩
      rw [ht] at c0 c1 HD hle
      have hlt : T + tn < 18446744073709551616 := by have := HT.out; simp only at hle; omega
      clear ht hle
      simp only at c0 c1 hlt HD
      have HDD : Hid (ltot (l.take (j + 1)) = T + tn) := Lib.hid (by rw [HD.out, hT.out])
      clear HD hT
      go_wp2_with fail
      go_roundw
      case rel => exact ⟨j + 1, T + tn, by omega, by go_num, by go_num, HDD, Lib.hid (hfr.out.trans0 (Fr.alloc _ _ _))⟩
      case measure => simp [intOf]; omega
    · obtain rfl : j = n := by omega
      have HV : Hid (ltot l = T) := Lib.hid (by rw [← hT.out, ← HN.out, List.take_length])
      clear hT
      go_wp2_with fail
      go_ret
      exact ⟨by first | (rw [HV.out]; done) | (rw [HV.out]; rfl), hfr.out⟩
theorem clone_any (p : Option Addr) (n c : Nat) (l : List Pr) (w : World) (h : PrI w p l) (hn : l.length = n) (hm : n ≤ 1099511627776) (hc : p = none → c = 0) :
    Calls Tryz.prog 96 #[.slice p n c] w fun e w' => ∃ q d, e = .returned (.slice q n d) ∧ PrsNew w w' q d n l := by
  obtain ⟨i, hi, hz, hsz, hb⟩ := info_parts info_pr
  cases p with
  | none =>
    have hl : l = [] := by
      by_cases hl : l = []
      · exact hl
      · obtain ⟨b, off, hp, _⟩ := h.cel hl
        cases hp
    subst hl
    obtain rfl := hc rfl
    obtain rfl : 0 = n := hn
    have hnil : ∀ W, (binOp .eql 40 (.slice none 0 0) (.slice none 0 0)).run Tryz.prog W = .ok (.bool true) W := fun W => Lib.run_eql_slice_nil W _ _ none 0 0 0 0 Tryz.underlying40
    clear h hm hc hi hz hsz hb
    go_enter Tryz.func96, Tryz.ntmps96
    go_wp2_with fail
    go_ret
    exact ⟨none, 0, rfl, World.ownsRow_nil _ _ _ _, rfl, (fun _ h => by cases h), Fr.refl _ _⟩
  | some a =>
    have HX : Hid (∀ o, ∀ j u, (prs l)[j]? = some u → (w.alloc o).cell? (a.add j) = some u) := Lib.hid fun o j u hu => by
      have hl : l ≠ [] := by rintro rfl; simp [prs] at hu
      obtain ⟨b, off, hp, -⟩ := h.cel hl
      obtain rfl := Option.some.inj hp
      exact (h.fr0 (Fr.alloc S0 w o)).cells j u hu
    have HL : Hid ((prs l).length = n * 2) := Lib.hid (by rw [prs_len, hn])
    have HLL : Hid (l.length = n) := Lib.hid hn
    have HM : Hid (0 + n ≤ maxLen ∧ (0 + n) * 16 ≤ 140737488355328) := Lib.hid ⟨by unfold maxLen; omega, by omega⟩
    have HO : Hid ((w.alloc (.cells #[] 67)).ownsRow 0 67 2 (.slice (some ⟨w.heap.size, 0, none⟩) 0 0) 0 []) := Lib.hid (World.ownsRow_made w #[] 0 (Nat.zero_le _) (by decide) rfl)
    have HI := Lib.hid hi
    have HZ := Lib.hid hz
    have hnil : ∀ W, (binOp .eql 40 (.slice (some a) n c) (.slice none 0 0)).run Tryz.prog W = .ok (.bool false) W := fun W => Lib.run_eql_slice_nil W _ _ (some a) n c 0 0 Tryz.underlying40
    clear h hn hm hc hi hz
    go_enter Tryz.func96, Tryz.ntmps96
    go_wp2_with (at_builtin; refine wpList_append_own_at _ rfl (.tmp 5) (.tmp 6) 40 rfl 0 67 i _ 2 16 Tryz.underlying40 HI.out HZ.out hsz hb rfl (by decide) _ 0 [] rfl HO.out a n c (prs l) rfl HL.out (HX.out _) (prs_one l) HM.out.1 HM.out.2 (Nat.zero_le _) ?_; intro v' w1 hown hgrow hnil hat; have H1 := Lib.hid (And.intro hown (And.intro hgrow hat)); clear hown hgrow hnil hat)
    go_ret
    obtain ⟨hown, hgrow, hat⟩ := H1.out
    rw [List.nil_append, Nat.zero_add] at hown
    obtain ⟨q, d, rfl⟩ := slFormN hown
    refine ⟨q, d, rfl, hown, HLL.out, fun x hx => ?_, (Fr.alloc S0 w _).append hgrow fun k hk => by obtain rfl := Option.some.inj hk; exact Nat.le_refl _⟩
    subst hx
    rcases hat with h1 | h1
    · have h2 : x.block = w.heap.size := Option.some.inj h1
      omega
    · have h2 : x.block = _ := Option.some.inj h1
      rw [size_alloc] at h2
      omega
theorem pairs_any (g h : Nat) (l : List Pr) (w : World) (s : StIs X w g h l) :
    Calls Tryz.prog 73 #[.pointer (some ⟨g, 3, none⟩)] w fun e w' => ∃ p c n, e = .returned (.slice p n c) ∧ PrsNew w w' p c n l := by
  obtain ⟨p, n, c, s⟩ := s
  have c0 := s.raw.c0
  have HC := Lib.hid (clone_any p n c l w s.pri s.len (by have := s.small; omega) fun e => by
    rcases s.base with h | h
    · exact h.2.2.1
    · rw [e] at h; cases h)
  clear s
  go_enter Tryz.func73, Tryz.ntmps73
  go_wp2_with fail
  refine HC.out.mono ?_
  rintro e w1 ⟨q, d, rfl, hp⟩
  have HP := Lib.hid hp
  clear hp HC
  go_wp2_with fail
  go_ret
  exact ⟨q, d, n, rfl, HP.out⟩
end Go.Proofs.YtaemgflhgdlmiaaGreat

namespace Go.Proofs.YtaemgflhgdlmiaaGreat
open Go.RowKit
variable {X : Sx}
def Has (B : Nat) : Prop := ∀ (args : Array Value) (w : World), (callFunc B args).run Tryz.prog w = .ok (.enter B args) w
theorem has_place : Has 126 := fun _ _ => by kernel_rfl
theorem has_ad : Has 107 := fun _ _ => by kernel_rfl
theorem search_any (B : Nat) (x y : Value) (p : Nat → Bool) (n : Nat) (w : World) (hB : Has B) (hn : n ≤ 1000000000) (mono : ∀ i j, i ≤ j → j < n → p i = true → p j = true)
    (hf : ∀ h, h < n → ∀ W, Fr S0 w W → Calls Tryz.prog B #[.int .i64 (h : Nat), x, y] W fun e w' => e = .returned (.bool (p h)) ∧ Fr S0 W w') :
    Calls Tryz.prog 101 #[.int .i64 (n : Nat), .func (.func B) #[] #[x, y]] w fun e w' => ∃ i : Nat, e = .returned (.int .i64 (i : Nat)) ∧ i ≤ n ∧ (∀ j, j < i → p j = false) ∧ (∀ j, i ≤ j → j < n → p j = true) ∧ Fr S0 w w' := by
  have HB := Lib.hid hB
  have HM := Lib.hid mono
  have HF := Lib.hid hf
  clear hB mono hf
  go_enter Tryz.func101, Tryz.ntmps101
  go_wp2_with fail
  go_loopw [5, 6, 7] (fun a b _ wr => ∃ i j : Nat, i ≤ j ∧ j ≤ n ∧ a = .int .i64 i ∧ b = .int .i64 j ∧ Hid (∀ k, k < i → p k = false) ∧ Hid (∀ k, j ≤ k → k < n → p k = true) ∧ Hid (Fr S0 w wr)) (fun a b _ _ => (intOf b).toNat - (intOf a).toNat)
  case atStart => exact ⟨0, n, by omega, by omega, rfl, rfl, Lib.hid fun k hk => absurd hk (Nat.not_lt_zero k), Lib.hid fun k h1 h2 => by omega, Lib.hid (Fr.refl _ _)⟩
  case round =>
    obtain ⟨i, j, hij, hjn, rfl, rfl, h1, h2, hfr⟩ := hrel
    by_cases hlt : (i : Int) < (j : Int)
    · obtain ⟨h, hh⟩ : ∃ h, (i + j) / 2 = h := ⟨_, rfl⟩
      have hih : i ≤ h := by omega
      have hhj : h < j := by omega
      have e1 : ((i : Int) + (j : Int)) / 2 ^ 1 = (h : Int) := by omega
      have e2 : ((i : Int) + (j : Int)) / 2 = (h : Int) := by omega
      have hs : (i : Int) + (j : Int) < 9223372036854775808 := by omega
      have hcf := HB.out #[.int .i64 (h : Int), x, y] wr
      have HC := Lib.hid (HF.out h (by omega) wr hfr.out)
      obtain ⟨q, hq⟩ : ∃ q, p h = q := ⟨_, rfl⟩
      rw [hq] at HC
      have HQ := Lib.hid hq
      clear hq hh
      cases q with
      | true =>
        go_wp2_with fail
        refine HC.out.mono ?_
        rintro e w1 ⟨rfl, f1⟩
        have HF1 := Lib.hid (hfr.out.trans0 f1)
        clear HC f1 hcf
        go_wp2_with fail
        go_roundw
        case rel => exact ⟨i, h, by omega, by omega, rfl, rfl, h1, Lib.hid fun k hk hkn => HM.out h k hk hkn HQ.out, HF1⟩
        case measure => simp [intOf]; omega
      | false =>
        go_wp2_with fail
        refine HC.out.mono ?_
        rintro e w1 ⟨rfl, f1⟩
        have HF1 := Lib.hid (hfr.out.trans0 f1)
        clear HC f1 hcf
        go_wp2_with fail
        go_roundw
        case rel => exact ⟨h + 1, j, by omega, by omega, by go_num, rfl, Lib.hid (fun k hk => by
            by_cases e : p k = true
            · have := HM.out k h (by omega) (by omega) e
              rw [HQ.out] at this
              cases this
            · simpa using e), h2, HF1⟩
        case measure => simp [intOf]; omega
    · obtain rfl : i = j := by omega
      go_wp2_with fail
      go_ret
      exact ⟨i, rfl, hjn, h1.out, h2.out, hfr.out⟩
def Asks (C : Nat) (k : Int) (q : Int → Bool) : Prop := ∀ (b : Nat) (x : Int) (W : World), W.cell? ⟨b, 0, none⟩ = some (.int .i64 k) → Calls Tryz.prog C #[.int .i64 x, .pointer (some ⟨b, 0, none⟩)] W fun e w' => e = .returned (.bool (q x)) ∧ W = w'
theorem asks_add (k : Int) : Asks 107 k fun x => decide (k ≤ x) := by
  intro b x W hk
  go_enter Tryz.func107, Tryz.ntmps107
  go_wp2_with fail
  go_ret
  exact ⟨by simp, rfl⟩
def Seen (w : World) (g : Nat) (l : List Pr) : Prop := ∃ p n c, w.cell? ⟨g, 3, none⟩ = some (.slice p n c) ∧ PrI w p l ∧ l.length = n ∧ Srt l ∧ n ≤ 2097153
theorem Seen.fr0 {w w' : World} {g : Nat} {l : List Pr} (s : Seen w g l) (f : Fr S0 w w') : Seen w' g l := let ⟨p, n, c, h1, h2, h3⟩ := s; ⟨p, n, c, f.cell h1 (fun h => h), h2.fr0 f, h3⟩
section
variable (C b g bg bf : Nat) (k : Int) (q : Int → Bool) (l : List Pr) (w : World)
theorem place1_any (i : Nat) (hC : Has C) (hA : Asks C k q) (hk : w.cell? ⟨b, 0, none⟩ = some (.int .i64 k)) (s : Seen w g l) (hi : i < l.length)
    (hf : w.cell? ⟨bf, 0, none⟩ = some (.func (.func C) #[] #[.pointer (some ⟨b, 0, none⟩)])) (hg : w.cell? ⟨bg, 0, none⟩ = some (.pointer (some ⟨g, 3, none⟩))) :
    Calls Tryz.prog 126 #[.int .i64 (i : Nat), .pointer (some ⟨bf, 0, none⟩), .pointer (some ⟨bg, 0, none⟩)] w fun e w' => e = .returned (.bool (q l[i].1)) ∧ Fr S0 w w' := by
  obtain ⟨p, n, c, c0, hp, hn, -, -⟩ := s
  have hin : (i : Int) < (n : Int) := by omega
  obtain ⟨bb, oo, rfl, k0, -⟩ := hp.at i hi
  have HC : Hid (∀ m, Calls Tryz.prog C #[.int .i64 l[i].1, .pointer (some ⟨b, 0, none⟩)] (w.drewN m) fun e w' => e = .returned (.bool (q l[i].1)) ∧ w.drewN m = w') := Lib.hid fun m => hA b _ _ (show (w.drewN m).cell? _ = _ from hk)
  have hcf : ∀ x W, (callFunc C #[.int .i64 x, .pointer (some ⟨b, 0, none⟩)]).run Tryz.prog W = .ok (.enter C #[.int .i64 x, .pointer (some ⟨b, 0, none⟩)]) W := fun x W => hC _ _
  obtain ⟨X, hX⟩ : ∃ X, l[i].1 = X := ⟨_, rfl⟩
  rw [hX] at k0 HC ⊢
  obtain ⟨Y, hY⟩ : ∃ Y, q X = Y := ⟨_, rfl⟩
  rw [hY] at HC ⊢
  clear hp hn hX hY hC hA hk hi
  go_enter Tryz.func126, Tryz.ntmps126
  go_wp2_with fail
  go_quiet (first | (exact (HC.out _).mono fun _ _ h => ⟨h.1, _, h.2.symm⟩))
  go_wp2_with fail
  go_ret
  exact ⟨rfl, Fr.drewN _ _ _⟩
end
end Go.Proofs.YtaemgflhgdlmiaaGreat

namespace Go.Proofs.YtaemgflhgdlmiaaGreat
open Go.RowKit
variable {X : Sx}
section
variable (C b g : Nat) (k : Int) (q : Int → Bool) (l : List Pr) (w : World)
theorem place_any (hC : Has C) (hA : Asks C k q) (hk : w.cell? ⟨b, 0, none⟩ = some (.int .i64 k)) (s : Seen w g l) (hq : ∀ x y, x ≤ y → q x = true → q y = true) :
    Calls Tryz.prog 106 #[.pointer (some ⟨g, 3, none⟩), .func (.func C) #[] #[.pointer (some ⟨b, 0, none⟩)]] w fun e w' => ∃ i : Nat, e = .returned (.int .i64 (i : Nat)) ∧ i ≤ l.length ∧
      (∀ j, (hj : j < l.length) → j < i → q l[j].1 = false) ∧ (∀ j, (hj : j < l.length) → i ≤ j → q l[j].1 = true) ∧ Fr S0 w w' := by
  have HS := Lib.hid s
  obtain ⟨p, n, c, s0, -, hln, hsrt, hsm⟩ := s
  have HN : Hid (l.length = n) := Lib.hid hln
  have f1 := (Fr.alloc S0 w (.cells #[.pointer (some ⟨g, 3, none⟩)] 141)).trans0 (Fr.alloc S0 _ (.cells #[.func (.func C) #[] #[.pointer (some ⟨b, 0, none⟩)]] 173))
  have c0 := f1.cell s0 (fun h => h)
  have d1 := heap_alloc_new (w.alloc (.cells #[.pointer (some ⟨g, 3, none⟩)] 141)) (.cells #[.func (.func C) #[] #[.pointer (some ⟨b, 0, none⟩)]] 173)
  have d0 := (Fr.alloc S0 _ (.cells #[.func (.func C) #[] #[.pointer (some ⟨b, 0, none⟩)]] 173)).row (heap_alloc_new w (.cells #[.pointer (some ⟨g, 3, none⟩)] 141)) (fun h => h)
  have HSR := Lib.hid (search_any 126 (.pointer (some ⟨(w.alloc (.cells #[.pointer (some ⟨g, 3, none⟩)] 141)).heap.size, 0, none⟩)) (.pointer (some ⟨w.heap.size, 0, none⟩))
    (fun j => if hj : j < l.length then q l[j].1 else true) n _ has_place (by omega)
    (fun i j hij hj hi => by
      rw [dif_pos (by omega)] at hi
      rw [dif_pos (by omega)]
      exact hq _ _ (srt_le hsrt (by omega) (by omega) hij) hi)
    (fun j hj W f => by
      rw [dif_pos (by omega)]
      have f2 := f1.trans0 f
      refine place1_any C b g _ _ k q l W j hC hA (f2.cell hk (fun h => h)) (HS.out.fr0 f2) (by omega) ?_ ?_
      · exact f.cell (by simp only [World.cell?, d1]; rfl) (fun h => h)
      · exact f.cell (by simp only [World.cell?, d0]; rfl) (fun h => h)))
  have HF1 := Lib.hid f1
  rw [size_alloc] at HSR
  clear s0 hln hsrt hsm hC hA hk hq HS f1 d0 d1
  go_enter Tryz.func106, Tryz.ntmps106
  go_wp2_with fail
  refine HSR.out.mono ?_
  rintro e w1 ⟨i, rfl, hi, h1, h2, f2⟩
  have HE : Hid (i ≤ l.length ∧ (∀ j, (hj : j < l.length) → j < i → q l[j].1 = false) ∧ (∀ j, (hj : j < l.length) → i ≤ j → q l[j].1 = true) ∧ Fr S0 w w1) := Lib.hid ⟨by rw [HN.out]; exact hi,
    fun j hj hji => by have := h1 j hji; rwa [dif_pos hj] at this, fun j hj hji => by have := h2 j hji (by rw [← HN.out]; exact hj); rwa [dif_pos hj] at this, HF1.out.trans0 f2⟩
  clear h1 h2 f2 HSR
  go_wp2_with fail
  go_ret
  exact ⟨i, rfl, HE.out⟩
end
end Go.Proofs.YtaemgflhgdlmiaaGreat
