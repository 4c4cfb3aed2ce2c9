/- ClNew0, ClLoad, ClLoadNo -/
import Derived.Test.YtaemgflhgdlmiaaGreatPw1
import Derived.Test.YtaemgflhgdlmiaaGreatPw2
import Derived.Test.YtaemgflhgdlmiaaGreatPw4
import Derived.Test.YtaemgflhgdlmiaaGreatPw5
import Derived.Test.YtaemgflhgdlmiaaGreatPw6
import Derived.Test.YtaemgflhgdlmiaaGreatPw7
import Derived.Test.YtaemgflhgdlmiaaGreatPw8
import Derived.Test.YtaemgflhgdlmiaaGreatPw14
import Derived.Test.YtaemgflhgdlmiaaGreatPw15
import Derived.Test.YtaemgflhgdlmiaaGreatPw16
import Derived.Test.YtaemgflhgdlmiaaGreatPw17
import Derived.Test.YtaemgflhgdlmiaaGreatPw18
import Derived.Test.YtaemgflhgdlmiaaGreatPw19
import Derived.Test.YtaemgflhgdlmiaaGreatPw20
import Derived.Test.YtaemgflhgdlmiaaGreatPw22
import Derived.Test.YtaemgflhgdlmiaaGreatPw23
import Derived.Test.YtaemgflhgdlmiaaGreatPw24
import Derived.WalkKit
import Derived.WalkSpells
import Derived.WalkLawsBesides
import Derived.Deep.QuietTactic
import Derived.BigQuiet
import Derived.RegionTactic
import Derived.Deep.AppendLies
import Derived.Deep.RegionLaw
import Derived.Laws.ResultCell
import Derived.Laws.EntriesVeiled
import Derived.Lib.Hide
import Derived.Test.YtaemgflhgdlmiaaGreatRows
import Derived.StillTailTactics
import Derived.BigRegion
import Derived.Laws.BytesArg
import Derived.Lib.SlBytesConst
import Derived.Maps.AppendAt
import Derived.Laws.AppendOwnNone
import Derived.Deep.RegionHeld3
import Derived.Lib.SliceRun
import Derived.Lib.AppendZeros
import Derived.Laws.CopyOwn
import Derived.Lib.Overlaps
import Derived.Laws.Externs
import Derived.Lib.AppendZerosOnto
import Derived.Laws.OwnMore
import Derived.Shelf.SlSortCmp.WholeK
set_option maxRecDepth 100000
set_option maxHeartbeats 8000000
namespace Go.Proofs.YtaemgflhgdlmiaaGreat
namespace K
open Go.RowKit
structure Sx where
  b : Nat
  k : Int
  f : Nat
variable {X : Sx}
structure Raw (X : Sx) (w : World) (g : Nat) (p : Option Addr) (n c T : Nat) : Prop where
  blk : w.heap[g]? = some (.cells #[.int .i64 (X.b : Int), .slice p n c, .int .u64 (T : Int), .int .i64 X.k, .int .u64 (X.f : Int)] 99 (0, 0))
section
variable {w w' : World} {g : Nat} {p : Option Addr} {n c T : Nat} {S : Nat → Prop}
theorem Raw.c0 (h : Raw X w g p n c T) : w.cell? ⟨g, 1, none⟩ = some (.slice p n c) := by simp [World.cell?, h.blk]
theorem Raw.c1 (h : Raw X w g p n c T) : w.cell? ⟨g, 2, none⟩ = some (.int .u64 (T : Int)) := by simp [World.cell?, h.blk]
theorem Raw.fz (h : Raw X w g p n c T) (i : Nat) : w.frozen? ⟨g, i, none⟩ = false := by simp [World.frozen?, h.blk]
theorem Raw.fr (h : Raw X w g p n c T) (f : Fr S w w') (hs : ¬ S g) : Raw X w' g p n c T := ⟨f.row h.blk hs⟩
theorem Raw.fr0 (h : Raw X w g p n c T) (f : Fr S0 w w') : Raw X w' g p n c T := h.fr f fun h => h
theorem Raw.set0 (h : Raw X w g p n c T) (q : Option Addr) (m d : Nat) : Raw X (w.setCell ⟨g, 1, none⟩ (.slice q m d)) g q m d T := ⟨by rw [heap_setCell_same w g 1 _ _ _ h.blk]; rfl⟩
theorem Raw.set1 (h : Raw X w g p n c T) (U : Nat) : Raw X (w.setCell ⟨g, 2, none⟩ (.int .u64 (U : Int))) g p n c U := ⟨by rw [heap_setCell_same w g 2 _ _ _ h.blk]; rfl⟩
theorem Raw.lt (h : Raw X w g p n c T) : g < w.heap.size := (Array.getElem?_eq_some_iff.1 h.blk).1
end
section
variable {w w' : World} {g h : Nat} {p : Option Addr} {n c : Nat} {l : List Pr} {S : Nat → Prop}
structure Sto (X : Sx) (w : World) (g h : Nat) (p : Option Addr) (n c : Nat) (l : List Pr) : Prop where
  raw : Raw X w g p n c (ltot l)
  own : w.ownsRow 0 67 2 (.slice p n c) n (prs l)
  row : ∀ a, p = some a → a.block = h
  apart : p ≠ none → h ≠ g
  ok : Good l
theorem Sto.fr (s : Sto X w g h p n c l) (f : Fr S w w') (h1 : ¬ S g) (h2 : p ≠ none → ¬ S h) : Sto X w' g h p n c l :=
  ⟨s.raw.fr f h1, f.owns s.own fun k hk => by
    cases p with
    | none => cases hk
    | some a =>
      obtain rfl : a.block = k := Option.some.inj hk
      rw [s.row a rfl]
      exact h2 (by simp), s.row, s.apart, s.ok⟩
def StIs (X : Sx) (w : World) (g h : Nat) (l : List Pr) : Prop := ∃ p n c, Sto X w g h p n c l
theorem StIs.fr {S : Nat → Prop} {w w' : World} {g h : Nat} {l : List Pr} (s : StIs X w g h l) (f : Fr S w w') (h1 : ¬ S g) (h2 : ¬ S h) : StIs X w' g h l :=
  let ⟨p, n, c, s⟩ := s; ⟨p, n, c, s.fr f h1 fun _ => h2⟩
theorem StIs.fr0 {w w' : World} {g h : Nat} {l : List Pr} (s : StIs X w g h l) (f : Fr S0 w w') : StIs X w' g h l := s.fr f (fun h => h) fun h => h
theorem StIs.ok {w : World} {g h : Nat} {l : List Pr} (s : StIs X w g h l) : Good l := let ⟨_, _, _, s⟩ := s; s.ok
theorem StIs.lt {w : World} {g h : Nat} {l : List Pr} (s : StIs X w g h l) : g < w.heap.size := let ⟨_, _, _, s⟩ := s; s.raw.lt
theorem StIs.zero {w : World} {g : Nat} (h : Nat) (r : Raw X w g none 0 0 0) : StIs X w g h [] :=
  ⟨none, 0, 0, r, World.ownsRow_nil _ _ _ _, (fun _ h => (by cases h)), fun h => absurd rfl h, Good.nil⟩
end
section
variable {X : Sx} {w w' : World} {g h : Nat} {p : Option Addr} {n c T : Nat} {l : List Pr}
theorem Raw.cb (r : Raw X w g p n c T) : w.cell? ⟨g, 0, none⟩ = some (.int .i64 (X.b : Int)) := by simp [World.cell?, r.blk]
theorem Raw.ck (r : Raw X w g p n c T) : w.cell? ⟨g, 3, none⟩ = some (.int .i64 X.k) := by simp [World.cell?, r.blk]
theorem Raw.cf (r : Raw X w g p n c T) : w.cell? ⟨g, 4, none⟩ = some (.int .u64 (X.f : Int)) := by simp [World.cell?, r.blk]
theorem Raw.setk (r : Raw X w g p n c T) (k : Int) : Raw ⟨X.b, k, X.f⟩ (w.setCell ⟨g, 3, none⟩ (.int .i64 k)) g p n c T := ⟨by rw [heap_setCell_same w g 3 _ _ _ r.blk]; rfl⟩
theorem Raw.setf (r : Raw X w g p n c T) (f : Nat) : Raw ⟨X.b, X.k, f⟩ (w.setCell ⟨g, 4, none⟩ (.int .u64 (f : Int))) g p n c T := ⟨by rw [heap_setCell_same w g 4 _ _ _ r.blk]; rfl⟩
theorem StIs.other {Y : Sx} (s : StIs X w g h l) (f : Fr (· = g) w w') (hr : ∀ p n c T, Raw X w g p n c T → Raw Y w' g p n c T) : StIs Y w' g h l := by
  obtain ⟨p, n, c, s⟩ := s
  exact ⟨p, n, c, hr _ _ _ _ s.raw, f.owns s.own fun b hb e => by
    cases p with
    | none => cases hb
    | some a => exact s.apart (by simp) ((s.row a rfl).symm.trans ((Option.some.inj hb).trans e)), s.row, s.apart, s.ok⟩
theorem StIs.setkf (s : StIs X w g h l) (k : Int) (f : Nat) : StIs ⟨X.b, k, f⟩ ((w.setCell ⟨g, 3, none⟩ (.int .i64 k)).setCell ⟨g, 4, none⟩ (.int .u64 (f : Int))) g h l :=
  s.other ((Fr.setCell (· = g) _ _ _ rfl).trans (Fr.setCell (· = g) _ _ _ rfl) fun _ _ h => h) fun _ _ _ _ r => (r.setk k).setf f
theorem StIs.cells (s : StIs X w g h l) : ∃ p n c T, Raw X w g p n c T := let ⟨p, n, c, s⟩ := s; ⟨p, n, c, _, s.raw⟩
theorem StIs.cb (s : StIs X w g h l) : w.cell? ⟨g, 0, none⟩ = some (.int .i64 (X.b : Int)) := let ⟨_, _, _, _, r⟩ := s.cells; r.cb
theorem StIs.ck (s : StIs X w g h l) : w.cell? ⟨g, 3, none⟩ = some (.int .i64 X.k) := let ⟨_, _, _, _, r⟩ := s.cells; r.ck
theorem StIs.cf (s : StIs X w g h l) : w.cell? ⟨g, 4, none⟩ = some (.int .u64 (X.f : Int)) := let ⟨_, _, _, _, r⟩ := s.cells; r.cf
theorem StIs.fz (s : StIs X w g h l) (i : Nat) : w.frozen? ⟨g, i, none⟩ = false := let ⟨_, _, _, _, r⟩ := s.cells; r.fz i
end
structure ColK (w : World) (g h m : Nat) (k : Int) (a : List Pr) : Prop where
  is : StIs ⟨m, k, cutA a m⟩ w g h (cutN a m)
  key : cutA a m ≠ 0 → k = hk (cutN a m)
  ok : Good a
  m2 : 2 ≤ m
  m3 : m ≤ 4096
def Col (w : World) (g h m : Nat) (a : List Pr) : Prop := ∃ k, ColK w g h m k a
theorem Col.fr {S : Nat → Prop} {w w' : World} {g h m : Nat} {a : List Pr} (s : Col w g h m a) (f : Fr S w w') (h1 : ¬ S g) (h2 : ¬ S h) : Col w' g h m a :=
  let ⟨k, s⟩ := s; ⟨k, s.is.fr f h1 h2, s.key, s.ok, s.m2, s.m3⟩
theorem Col.fr0 {w w' : World} {g h m : Nat} {a : List Pr} (s : Col w g h m a) (f : Fr S0 w w') : Col w' g h m a := s.fr f (fun h => h) fun h => h
theorem Col.ok {w : World} {g h m : Nat} {a : List Pr} (s : Col w g h m a) : Good a := let ⟨_, s⟩ := s; s.ok
theorem Col.lt {w : World} {g h m : Nat} {a : List Pr} (s : Col w g h m a) : g < w.heap.size := let ⟨_, s⟩ := s; s.is.lt
theorem Col.m2 {w : World} {g h m : Nat} {a : List Pr} (s : Col w g h m a) : 2 ≤ m := let ⟨_, s⟩ := s; s.m2
theorem Col.m3 {w : World} {g h m : Nat} {a : List Pr} (s : Col w g h m a) : m ≤ 4096 := let ⟨_, s⟩ := s; s.m3
structure NewC (w w' : World) (g h m : Nat) (a : List Pr) : Prop where
  is : Col w' g h m a
  g0 : w.heap.size ≤ g
  h0 : w.heap.size ≤ h
  hl : h < w'.heap.size
  fr : Fr S0 w w'
theorem new_yes (m : Nat) (w : World) (h2 : 2 ≤ m) (h3 : m ≤ 4096) : Calls Tryz.prog 49 #[.int .i64 (m : Nat)] w fun e w' => ∃ g, e = .returned (.tuple #[.pointer (some ⟨g, 0, none⟩), .int .i64 0]) ∧ NewC w w' g g m [] := by
  have d1 : decide ((m : Int) < 2) = false := decide_eq_false (by omega)
  have d2 : decide ((4096 : Int) < (m : Int)) = false := decide_eq_false (by omega)
  have HN : Hid (NewC w (w.alloc (.cells #[.int .i64 (m : Nat), .slice none 0 0, .int .u64 0, .int .i64 0, .int .u64 0] 99)) w.heap.size w.heap.size m []) := Lib.hid
    ⟨⟨0, by
      rw [(cut_nil m).1, (cut_nil m).2]
      exact StIs.zero _ ⟨heap_alloc_new w _⟩, fun h => absurd (cut_nil m).2 h, Good.nil, h2, h3⟩, Nat.le_refl _, Nat.le_refl _, by rw [size_alloc]; omega, Fr.alloc _ _ _⟩
  clear h2 h3
  go_enter Tryz.func49, Tryz.ntmps49
  go_wp2_with fail
  go_ret2
  exact ⟨_, rfl, HN.out⟩
end K
end Go.Proofs.YtaemgflhgdlmiaaGreat

namespace Go.Proofs.YtaemgflhgdlmiaaGreat
namespace K
open Go.RowKit
theorem rising_yes (p : Option Addr) (n c : Nat) (l : List Pr) (w : World) (h : PrI w p l) (hn : l.length = n) (hs : Srt l) :
    Calls Tryz.prog 113 #[.slice p n c] w fun e w' => e = .returned (.bool true) ∧ Fr S0 w w' := by
  have H := Lib.hid h
  have HN := Lib.hid hn
  have HS := Lib.hid hs
  have hlen := h.len
  rw [hn] at hlen
  unfold maxLen at hlen
  clear h hn hs
  go_enter Tryz.func113, Tryz.ntmps113
  go_wp2_with fail
  go_loopw [3] (fun x wr => ∃ j : Nat, 1 ≤ j ∧ j ≤ n + 1 ∧ x = .int .i64 j ∧ Hid (Fr S0 w wr)) (fun x _ => n + 1 - (intOf x).toNat)
  case atStart => exact ⟨1, by omega, by omega, rfl, Lib.hid (Fr.refl _ _)⟩
  case round =>
    obtain ⟨j, hj1, hjn1, rfl, hfr⟩ := hrel
    by_cases hjn : (j : Int) < (n : Int)
    · obtain ⟨i, hi⟩ : ∃ i, j - 1 = i := ⟨_, rfl⟩
      have hjl : j < l.length := by rw [HN.out]; omega
      have hil : i < l.length := by omega
      obtain ⟨b, o, hp, d0, -⟩ := (H.out.fr0 hfr.out).at j hjl
      obtain ⟨b', o', hp', e0, -⟩ := (H.out.fr0 hfr.out).at i hil
      rw [hp] at hp'
      simp only [Option.some.injEq, Addr.mk.injEq] at hp'
      obtain ⟨rfl, rfl, -⟩ := hp'
      have hlt := srt_lt HS.out hil hjl (by omega)
      obtain ⟨K, hK⟩ : ∃ K, l[i].1 = K := ⟨_, rfl⟩
      obtain ⟨J, hJ⟩ : ∃ J, l[j].1 = J := ⟨_, rfl⟩
      rw [hK] at e0 hlt
      rw [hJ] at d0 hlt
      have esub : (j : Int) - 1 = (i : Int) := by omega
      have esub2 : IntKind.i64.wrap ((j : Int) - 1) = (i : Int) := by rw [esub]; simp [IntKind.wrap, IntKind.bits, IntKind.signed]; omega
      have hin : (i : Int) < (n : Int) := by omega
      have hd : decide (J ≤ K) = false := decide_eq_false (by omega)
      subst hp
      clear hK hJ hi hjl hil
      go_wp2_with fail
      go_quiet (fail)
      go_wp2_with fail
      go_roundw
      case rel => exact ⟨j + 1, by omega, by omega, by go_num, Lib.hid (hfr.out.trans0 (Fr.drewN _ _ _))⟩
      case measure => simp [intOf]; omega
    · go_wp2_with fail
      go_ret
      exact ⟨rfl, hfr.out⟩
theorem hides_yes (k : Int) (n f : Nat) (w : World) (h1 : f < n) (h2 : -1048576 < k) :
    Calls Tryz.prog 115 #[.agg #[.int .i64 k, .int .u64 (n : Nat)], .int .u64 (f : Nat)] w fun e w' => e = .returned (.bool true) ∧ Fr S0 w w' := by
  have d1 : decide (f < n) = true := decide_eq_true h1
  have d2 : decide ((-1048576 : Int) < k) = true := decide_eq_true h2
  have F1 := Lib.hid (Fr.alloc S0 w (.cells #[.int .i64 k, .int .u64 (n : Nat)] 67))
  go_enter Tryz.func115, Tryz.ntmps115
  go_wp2_with fail
  go_ret
  exact ⟨rfl, F1.out⟩
theorem ofE_good : ∀ (r P : List Pr), ltot P + ltot r ≤ 4611686018427387904 → (∀ x ∈ r, 0 < x.2 ∧ -1048576 ≤ x.1 ∧ x.1 ≤ 1048576) → O.ofE P r = 0
  | [], _, _, _ => rfl
  | x :: r, P, h, hx => by
    have h1 := hx x List.mem_cons_self
    rw [ltot] at h
    have e : addE0 P x.1 x.2 = 0 := by unfold addE0; rw [if_neg (by omega), if_neg (by omega), if_neg (by omega)]
    rw [O.ofE, if_pos e]
    exact ofE_good r _ (by rw [tot_put]; omega) fun y hy => hx y (List.mem_cons_of_mem _ hy)
theorem Raw.put {X : Sx} {w : World} {g g2 h2 : Nat} {p q : Option Addr} {n c T N d : Nat} {L : List Pr} (r : Raw X w g p n c T) (s : O.Sto w g2 h2 q N d L) (hne : h2 ≠ g) :
    StIs X ((w.setCell ⟨g, 1, none⟩ (.slice q N d)).setCell ⟨g, 2, none⟩ (.int .u64 (ltot L : Nat))) g h2 L := by
  have f : Fr (· = g) w ((w.setCell ⟨g, 1, none⟩ (.slice q N d)).setCell ⟨g, 2, none⟩ (.int .u64 (ltot L : Nat))) := (Fr.setCell (· = g) _ _ _ rfl).trans (Fr.setCell (· = g) _ _ _ rfl) fun _ _ h => h
  refine ⟨q, N, d, (r.set0 q N d).set1 _, f.owns s.own fun b hb e => ?_, s.row, fun _ => hne, s.ok⟩
  cases q with
  | none => cases hb
  | some x => exact hne ((s.row x rfl).symm.trans ((Option.some.inj hb).trans e))
section
variable (p : Option Addr) (n c m : Nat) (a : List Pr) (w : World)
theorem load_any (ok : Good a) (m2 : 2 ≤ m) (m3 : m ≤ 4096) (hp : PrI w p (cutN a m)) (hn : (cutN a m).length = n) (hc : p = none → c = 0) :
    Calls Tryz.prog 89 #[.int .i64 (m : Nat), .slice p n c, .int .u64 (cutA a m : Nat)] w fun e w' => ∃ g h, e = .returned (.tuple #[.pointer (some ⟨g, 0, none⟩), .int .i64 0]) ∧ NewC w w' g h m a := by
  have hg : Good (cutN a m) := ok.cut (by omega)
  have hnm : n ≤ m := by rw [← hn]; exact cut_len ok.srt ok.pos (by omega)
  have HNEW := Lib.hid (new_yes m w m2 m3)
  have HRIS := Lib.hid (fun W (f : Fr S0 w W) => rising_yes p n c (cutN a m) W (hp.fr0 f) hn hg.srt)
  have HOF : Hid (∀ W, Fr S0 w W → Calls Tryz.prog 114 #[.slice p n c] W fun e w' => Fr S0 W w' ∧ ∃ g, e = .returned (.tuple #[.pointer (some ⟨g, 0, none⟩), .int .i64 0]) ∧ O.NewL W w' g (cutN a m)) := Lib.hid fun W f =>
    (O.of_any p n c (cutN a m) W (hp.fr0 f) hn (by omega) hc (fun x hx => by
      have h1 := cnt_mem hg.srt hx
      have h2 := cnt_tot (cutN a m) x.1
      have := hg.tot
      omega)).mono fun e w' he => by
      have e0 : O.ofE [] (cutN a m) = 0 := ofE_good _ _ (by have := hg.tot; simp only [ltot]; omega) fun x hx => ⟨hg.pos x hx, hg.all x hx⟩
      rcases he with ⟨f1, ⟨h1, -⟩ | ⟨-, g, h2, h3⟩⟩
      · exact absurd e0 h1
      · rw [putAll_of_nil hg.srt hg.pos] at h3
        exact ⟨f1, g, h2, h3⟩
  have HOK := Lib.hid ok
  have HP := Lib.hid hp
  have HM := Lib.hid (And.intro m2 m3)
  have HN := Lib.hid hn
  have hd1 : decide (m < n) = false := decide_eq_false (by omega)
  have hd2 : decide ((m : Int) < (n : Int)) = false := decide_eq_false (by omega)
  have hcm : (m : Int) ≤ 4096 := by omega
  by_cases hF : cutA a m = 0
  · have HF := Lib.hid hF
    rw [hF]
    clear ok hp hn hg hc hF m2 m3
    go_enter Tryz.func89, Tryz.ntmps89
    go_wp2_with fail
    refine HNEW.out.mono ?_
    rintro e w1 ⟨g, rfl, hnew⟩
    have HW1 := Lib.hid hnew
    have HR1 := Lib.hid (HRIS.out w1 hnew.fr)
    clear hnew HNEW HRIS
    go_wp2_with fail
    refine HR1.out.mono ?_
    rintro e w2 ⟨rfl, f2⟩
    have HF2 := Lib.hid f2
    have HO2 := Lib.hid (HOF.out w2 (HW1.out.fr.trans0 f2))
    clear f2 HR1 HOF
    go_wp2_with fail
    refine HO2.out.mono ?_
    rintro e w3 ⟨f3, g2, rfl, h2, ⟨q, N, d, so⟩, hg0, hh0, hhl⟩
    obtain ⟨k, ck⟩ := HW1.out.is
    obtain ⟨p0, n0, c0, T0, r1⟩ := ck.is.cells
    have r3 := (r1.fr0 HF2.out).fr0 f3
    have hlt : g < w1.heap.size := ck.is.lt
    have hgs := HF2.out.size
    have hgw := HW1.out.g0
    have hst := r3.put so (by omega)
    have x1 := r3.c0
    have z1 := r3.fz 1
    have x2 := (r3.set0 q N d).c1
    have z2 := (r3.set0 q N d).fz 2
    have y0 := so.raw.c0
    have y1 := so.raw.c1
    have hfs := f3.size
    have hws := HW1.out.fr.size
    have HEND : Hid (NewC w ((w3.setCell ⟨g, 1, none⟩ (.slice q N d)).setCell ⟨g, 2, none⟩ (.int .u64 (ltot (cutN a m) : Nat))) g h2 m a) := Lib.hid (by
      have ff : Fr (· = g) w3 ((w3.setCell ⟨g, 1, none⟩ (.slice q N d)).setCell ⟨g, 2, none⟩ (.int .u64 (ltot (cutN a m) : Nat))) := (Fr.setCell (· = g) _ _ _ rfl).trans (Fr.setCell (· = g) _ _ _ rfl) fun _ _ h => h
      refine ⟨⟨k, ?_, fun h => absurd HF.out h, HOK.out, HM.out.1, HM.out.2⟩, hgw, by omega, Nat.lt_of_lt_of_le hhl ff.size, ((HW1.out.fr.trans0 HF2.out).trans0 f3).trans ff fun x hx e => (by omega)⟩
      rw [(cut_nil m).2] at hst
      rw [HF.out]
      exact hst)
    obtain ⟨U, hU⟩ : ∃ U, ltot (cutN a m) = U := ⟨_, rfl⟩
    rw [hU] at HEND y1
    clear so f3 ck r1 r3 hst HO2 HW1 HF2 hlt hgs hgw hg0 hh0 hhl hfs hws hU
    go_wp2_with fail
    go_ret2
    exact ⟨g, h2, rfl, HEND.out⟩
  · obtain ⟨hlen, ⟨z, hz, hzk⟩, ⟨tk, tn⟩, t, hcons, htk, htn⟩ := hk_above ok.srt ok.pos (by omega) hF
    obtain rfl : m = n := hlen.symm.trans hn
    have hl0 : 0 < (cutN a m).length := by rw [hlen]; omega
    have e0 : (cutN a m)[0] = (tk, tn) := by
      have : (cutN a m)[0]? = some (tk, tn) := by rw [hcons]; rfl
      exact Option.some.inj ((List.getElem?_eq_getElem hl0).symm.trans this)
    simp only at htk htn
    have hkm : -1048576 < tk := by have := (ok.all z hz).1; omega
    obtain ⟨F, hFF⟩ : ∃ F, cutA a m = F := ⟨_, rfl⟩
    have HF := Lib.hid hFF
    rw [hFF] at hF htn ⊢
    have HK : Hid (tk = hk (cutN a m)) := Lib.hid htk
    have HHI := Lib.hid (fun W => hides_yes tk tn F W htn hkm)
    obtain ⟨pb, po, rfl, d0, d1⟩ := hp.at 0 hl0
    rw [e0] at d0 d1
    simp only [Nat.zero_mul, Nat.add_zero] at d0 d1
    have hF0 : ((F : Int) == 0) = false := by rw [beq_eq_false_iff_ne]; omega
    have hm0 : (0 : Int) < (m : Int) := by omega
    have hm1 : 0 < m := by omega
    clear ok hp hn hg hc hF m2 m3 hlen hz hzk hcons htk htn hl0 e0 hkm hFF t z
    go_enter Tryz.func89, Tryz.ntmps89
    go_wp2_with fail
    refine HNEW.out.mono ?_
    rintro e w1 ⟨g, rfl, hnew⟩
    have HW1 := Lib.hid hnew
    have HR1 := Lib.hid (HRIS.out w1 hnew.fr)
    clear hnew HNEW HRIS
    go_wp2_with fail
    refine HR1.out.mono ?_
    rintro e w2 ⟨rfl, f2⟩
    have HF2 := Lib.hid f2
    have HO2 := Lib.hid (HOF.out w2 (HW1.out.fr.trans0 f2))
    clear f2 HR1 HOF
    go_wp2_with fail
    refine HO2.out.mono ?_
    rintro e w3 ⟨f3, g2, rfl, h2, ⟨q, N, d, so⟩, hg0, hh0, hhl⟩
    obtain ⟨k, ck⟩ := HW1.out.is
    obtain ⟨p0, n0, c0, T0, r1⟩ := ck.is.cells
    have r3 := (r1.fr0 HF2.out).fr0 f3
    have hlt : g < w1.heap.size := ck.is.lt
    have hgs := HF2.out.size
    have hgw := HW1.out.g0
    have hst := r3.put so (by omega)
    rw [(cut_nil m).2] at hst
    have x1 := r3.c0
    have z1 := r3.fz 1
    have x2 := (r3.set0 q N d).c1
    have z2 := (r3.set0 q N d).fz 2
    have y0 := so.raw.c0
    have y1 := so.raw.c1
    have hfs := f3.size
    have hws := HW1.out.fr.size
    have ff : Fr (· = g) w3 ((w3.setCell ⟨g, 1, none⟩ (.slice q N d)).setCell ⟨g, 2, none⟩ (.int .u64 (ltot (cutN a m) : Nat))) := (Fr.setCell (· = g) _ _ _ rfl).trans (Fr.setCell (· = g) _ _ _ rfl) fun _ _ h => h
    have hff : Fr S0 w ((w3.setCell ⟨g, 1, none⟩ (.slice q N d)).setCell ⟨g, 2, none⟩ (.int .u64 (ltot (cutN a m) : Nat))) := ((HW1.out.fr.trans0 HF2.out).trans0 f3).trans ff fun x hx e => (by omega)
    have hhl2 := Nat.lt_of_lt_of_le hhl ff.size
    obtain ⟨U, hU⟩ : ∃ U, ltot (cutN a m) = U := ⟨_, rfl⟩
    rw [hU] at hst hff y1 hhl2
    clear ff
    obtain ⟨W4, hW4⟩ : ∃ W4, ((w3.setCell ⟨g, 1, none⟩ (.slice q N d)).setCell ⟨g, 2, none⟩ (.int .u64 (U : Nat))) = W4 := ⟨_, rfl⟩
    rw [hW4] at hst hff hhl2
    have d0 := hff.cell d0 (fun h => h)
    have d1 := hff.cell d1 (fun h => h)
    have HST := Lib.hid hst
    have HFF := Lib.hid hff
    have HSZ : Hid (w.heap.size ≤ g ∧ w.heap.size ≤ h2 ∧ h2 < W4.heap.size) := Lib.hid ⟨hgw, by omega, hhl2⟩
    clear so f3 ck r1 r3 hst HO2 HW1 HF2 hlt hgs hgw hg0 hh0 hhl hhl2 hfs hws hU hff
    go_wp2_with fail
    refine (HHI.out _).mono ?_
    rintro e w5 ⟨rfl, f5⟩
    have hst5 := HST.out.fr0 f5
    obtain ⟨p5, n5, c5, T5, r5⟩ := hst5.cells
    have d0 := f5.cell d0 (fun h => h)
    have x3 := r5.ck
    have z3 := r5.fz 3
    have x4 := (r5.setk tk).cf
    have z4 := (r5.setk tk).fz 4
    have f6 : Fr (· = g) w5 ((w5.setCell ⟨g, 3, none⟩ (.int .i64 tk)).setCell ⟨g, 4, none⟩ (.int .u64 (F : Int))) := (Fr.setCell (· = g) _ _ _ rfl).trans (Fr.setCell (· = g) _ _ _ rfl) fun _ _ h => h
    have HEND : Hid (NewC w ((w5.setCell ⟨g, 3, none⟩ (.int .i64 tk)).setCell ⟨g, 4, none⟩ (.int .u64 (F : Int))) g h2 m a) := Lib.hid (by
      have e6 := hst5.setkf tk F
      refine ⟨⟨tk, ?_, fun _ => HK.out, HOK.out, HM.out.1, HM.out.2⟩, HSZ.out.1, HSZ.out.2.1, Nat.lt_of_lt_of_le HSZ.out.2.2 (Nat.le_trans f5.size f6.size), (HFF.out.trans0 f5).trans f6 fun x hx e => (by have := HSZ.out.1; omega)⟩
      rw [HF.out]
      exact e6)
    clear hst5 r5 f5 f6 HST HFF HHI d1
    go_wp2_with fail
    go_ret2
    exact ⟨g, h2, rfl, HEND.out⟩
end
end K
end Go.Proofs.YtaemgflhgdlmiaaGreat

namespace Go.Proofs.YtaemgflhgdlmiaaGreat
open Go.RowKit
structure LdOk (m : Nat) (l : List Pr) (f : Nat) : Prop where
  m2 : 2 ≤ m
  m3 : m ≤ 4096
  len : l.length ≤ m
  good : Good l
  fold : f = 0 ∨ (l.length = m ∧ ∃ x t, l = x :: t ∧ f < x.2 ∧ -1048576 < x.1)
theorem ofE_tot : ∀ (l P : List Pr), ltot P ≤ 4611686018427387904 → O.ofE P l = 0 → ltot P + ltot l ≤ 4611686018427387904 ∧ ∀ x ∈ l, 0 < x.2 ∧ -1048576 ≤ x.1 ∧ x.1 ≤ 1048576
  | [], P, h, _ => ⟨by simpa [ltot] using h, fun x hx => by cases hx⟩
  | y :: l, P, h, e => by
    rw [O.ofE] at e
    split at e
    · rename_i h0
      have h0' := h0
      unfold addE0 at h0'
      split at h0'
      · cases h0'
      · split at h0'
        · cases h0'
        · split at h0'
          · cases h0'
          · have := ofE_tot l _ (by rw [tot_put]; omega) e
            rw [tot_put] at this
            refine ⟨by rw [ltot]; omega, fun x hx => ?_⟩
            rcases List.mem_cons.1 hx with rfl | hx
            · omega
            · exact this.2 x hx
    · rename_i h0
      exact absurd e h0
theorem ofE_zero {l : List Pr} (hs : Srt l) (h : O.ofE [] l = 0) : Good l := by
  have := ofE_tot l [] (by decide) h
  exact ⟨hs, fun x hx => (this.2 x hx).1, by have := this.1; simp only [ltot] at this; omega, fun x hx => (this.2 x hx).2⟩
theorem LdOk.made {m : Nat} {l : List Pr} {f : Nat} (h : LdOk m l f) : ∃ a, Good a ∧ cutN a m = l ∧ cutA a m = f ∧ ∀ N : Int, (∀ x ∈ l, - N ≤ x.1 ∧ x.1 ≤ N) → (f ≠ 0 → ∀ x t, l = x :: t → - N ≤ x.1 - 1) → ∀ x ∈ a, - N ≤ x.1 ∧ x.1 ≤ N := by
  by_cases hf : f = 0
  · exact ⟨l, h.good, cut_none h.len, by rw [hf]; exact cutA_none h.len, fun N hN _ => hN⟩
  · obtain ⟨hlen, ⟨k, n⟩, t, rfl, h1, h2⟩ := h.fold.resolve_left hf
    simp only at h1 h2
    have hs := srt_cons.1 h.good.srt
    have hp := pos_cons.1 h.good.pos
    have ht := h.good.tot
    rw [ltot] at ht
    have hall := h.good.all
    have hk := hall (k, n) List.mem_cons_self
    have s1 : Srt ((k, n - f) :: t) := srt_cons.2 ⟨hs.1, hs.2⟩
    have s2 : Srt ([(k - 1, f)] ++ (k, n - f) :: t) := srt_cons.2 ⟨fun y hy => by
      rcases List.mem_cons.1 hy with rfl | hy
      · show k - 1 < k
        omega
      · have := hs.1 y hy
        show k - 1 < y.1
        simp only at this
        omega, s1⟩
    have hc : cnt ([(k - 1, f)] ++ (k, n - f) :: t) k ≠ 0 := by
      have e := cnt_mem s2 (x := (k, n - f)) (by simp)
      simp only at e
      rw [e]
      omega
    have ha := above_parts s2
    simp only at ha
    have hb : (above ([(k - 1, f)] ++ (k, n - f) :: t) k).length + 1 = m := by rw [ha]; simpa using hlen
    have hbel : bel ([(k - 1, f)] ++ (k, n - f) :: t) k = f := by
      show bel ((k - 1, f) :: (k, n - f) :: t) k = f
      have hz : bel ((k, n - f) :: t) k = 0 := bel_zero fun x hx => by
        rcases List.mem_cons.1 hx with rfl | hx
        · exact Int.le_refl _
        · have := hs.1 x hx
          simp only at this
          omega
      rw [bel, hz, if_pos (by show k - 1 < k; omega)]
      rfl
    have hupt : upt ([(k - 1, f)] ++ (k, n - f) :: t) k = n := by
      have e := cnt_mem s2 (x := (k, n - f)) (by simp)
      simp only at e
      rw [upt_bel _ s2, hbel, e]
      omega
    refine ⟨[(k - 1, f)] ++ (k, n - f) :: t, ⟨s2, ?_, ?_, ?_⟩, ?_, ?_, ?_⟩
    · intro x hx
      rcases List.mem_cons.1 hx with rfl | hx
      · show 0 < f
        omega
      · rcases List.mem_cons.1 hx with rfl | hx
        · show 0 < n - f
          omega
        · exact hp.2 x hx
    · show ltot ((k - 1, f) :: (k, n - f) :: t) ≤ _
      rw [ltot, ltot]
      simp only
      omega
    · intro x hx
      rcases List.mem_cons.1 hx with rfl | hx
      · show -1048576 ≤ k - 1 ∧ k - 1 ≤ 1048576
        simp only at hk
        omega
      · rcases List.mem_cons.1 hx with rfl | hx
        · exact hk
        · exact hall x (List.mem_cons_of_mem _ hx)
    · rw [cut_at s2 hc hb, hupt, ha]
    · rw [cutA_at s2 hc hb, hbel]
    · intro N hN hfN x hx
      have e1 := hN (k, n) List.mem_cons_self
      have e2 := hfN hf (k, n) t rfl
      simp only at e1 e2
      rcases List.mem_cons.1 hx with rfl | hx
      · show - N ≤ k - 1 ∧ k - 1 ≤ N
        omega
      · rcases List.mem_cons.1 hx with rfl | hx
        · exact e1
        · exact hN x (List.mem_cons_of_mem _ hx)
theorem LdOk.of {a : List Pr} {m : Nat} (h : Good a) (m2 : 2 ≤ m) (m3 : m ≤ 4096) : LdOk m (cutN a m) (cutA a m) := by
  refine ⟨m2, m3, cut_len h.srt h.pos (by omega), h.cut (by omega), ?_⟩
  by_cases hf : cutA a m = 0
  · exact .inl hf
  · obtain ⟨hlen, ⟨z, hz, hzk⟩, x, t, hcons, htk, htn⟩ := hk_above h.srt h.pos (by omega) hf
    exact .inr ⟨hlen, x, t, hcons, htn, by have := (h.all z hz).1; omega⟩
theorem knew_no21 (m : Int) (w : World) (h : m < 2 ∨ 4096 < m) : Calls Tryz.prog 49 #[.int .i64 m] w fun e w' => e = .returned (.tuple #[.pointer none, .int .i64 1]) ∧ Fr S0 w w' := by
  by_cases h1 : m < 2
  · go_enter Tryz.func49, Tryz.ntmps49
    go_wp2_with fail
    go_ret2
    exact ⟨rfl, Fr.refl _ _⟩
  · have h2 : 4096 < m := by omega
    go_enter Tryz.func49, Tryz.ntmps49
    go_wp2_with fail
    go_ret2
    exact ⟨rfl, Fr.refl _ _⟩
theorem khides_no (k : Int) (n f : Nat) (w : World) (h : ¬ (f < n ∧ -1048576 < k)) :
    Calls Tryz.prog 115 #[.agg #[.int .i64 k, .int .u64 (n : Nat)], .int .u64 (f : Nat)] w fun e w' => e = .returned (.bool false) ∧ Fr S0 w w' := by
  have F1 := Lib.hid (Fr.alloc S0 w (.cells #[.int .i64 k, .int .u64 (n : Nat)] 67))
  by_cases h1 : f < n
  · have d1 : decide (f < n) = true := decide_eq_true h1
    have d2 : decide ((-1048576 : Int) < k) = false := decide_eq_false fun e => h ⟨h1, e⟩
    clear h
    go_enter Tryz.func115, Tryz.ntmps115
    go_wp2_with fail
    go_ret
    exact ⟨rfl, F1.out⟩
  · have d1 : decide (f < n) = false := decide_eq_false h1
    clear h
    go_enter Tryz.func115, Tryz.ntmps115
    go_wp2_with fail
    go_ret
    exact ⟨rfl, F1.out⟩
section
variable (p : Option Addr) (n c m f : Nat) (l : List Pr) (w : World)
theorem kload_no (hp : PrI w p l) (hn : l.length = n) (hc : p = none → c = 0) (hs : Srt l) (h64 : ∀ x ∈ l, x.2 < 18446744073709551616) (hm64 : m < 9223372036854775808) (hno : ¬ LdOk m l f) :
    Calls Tryz.prog 89 #[.int .i64 (m : Nat), .slice p n c, .int .u64 (f : Nat)] w fun e w' => e = .returned (.tuple #[.pointer none, .int .i64 1]) ∧ Fr S0 w w' := by
  have hlenn := hp.len
  rw [hn] at hlenn
  unfold maxLen at hlenn
  by_cases hm : (m : Int) < 2 ∨ 4096 < (m : Int)
  · have HNEW := Lib.hid (knew_no21 m w hm)
    clear hp hn hc hs h64 hno hm
    go_enter Tryz.func89, Tryz.ntmps89
    go_wp2_with fail
    refine HNEW.out.mono ?_
    rintro e w1 ⟨rfl, f1⟩
    have F1 := Lib.hid f1
    clear f1
    go_wp2_with fail
    go_ret2
    exact ⟨rfl, F1.out⟩
  · have HNEW := Lib.hid (K.new_yes m w (by omega) (by omega))
    have HRIS := Lib.hid (fun W (f : Fr S0 w W) => K.rising_yes p n c l W (hp.fr0 f) hn hs)
    by_cases hl : m < n
    · have d1 : decide (m < n) = true := decide_eq_true hl
      have d2 : decide ((m : Int) < (n : Int)) = true := decide_eq_true (by omega)
      clear hp hn hc hs h64 hno hm hl
      go_enter Tryz.func89, Tryz.ntmps89
      go_wp2_with fail
      refine HNEW.out.mono ?_
      rintro e w1 ⟨g, rfl, hnew⟩
      have F1 := Lib.hid hnew.fr
      clear hnew
      go_wp2_with fail
      go_ret2
      exact ⟨rfl, F1.out⟩
    · have d1 : decide (m < n) = false := decide_eq_false hl
      have d2 : decide ((m : Int) < (n : Int)) = false := decide_eq_false (by omega)
      have HOF := Lib.hid (fun W (f : Fr S0 w W) => O.of_any p n c l W (hp.fr0 f) hn (by omega) hc h64)
      have hmb : (m : Int) ≤ 4096 := by omega
      have hm2 : 2 ≤ m := by omega
      by_cases hof : O.ofE [] l = 0
      · have hg := ofE_zero hs hof
        have hf0 : f ≠ 0 := fun e => hno ⟨by omega, by omega, by omega, hg, .inl e⟩
        have hfb : ((f : Int) == 0) = false := by rw [beq_eq_false_iff_ne]; omega
        have HNO := Lib.hid hno
        have HG := Lib.hid hg
        have HN := Lib.hid hn
        have HP := Lib.hid hp
        have HOO := Lib.hid hof
        clear hp hn hc hs h64 hm hno hof hg
        go_enter Tryz.func89, Tryz.ntmps89
        go_wp2_with fail
        refine HNEW.out.mono ?_
        rintro e w1 ⟨g, rfl, hnew⟩
        have HW1 := Lib.hid hnew
        have HR1 := Lib.hid (HRIS.out w1 hnew.fr)
        clear hnew HNEW HRIS
        go_wp2_with fail
        refine HR1.out.mono ?_
        rintro e w2 ⟨rfl, f2⟩
        have HF2 := Lib.hid f2
        have HO2 := Lib.hid (HOF.out w2 (HW1.out.fr.trans0 f2))
        clear f2 HR1 HOF
        go_wp2_with fail
        refine HO2.out.mono ?_
        rintro e w3 ⟨f3, ⟨hx, -⟩ | ⟨-, g2, rfl, h2, ⟨q, N, d, so⟩, hg0, hh0, hhl⟩⟩
        · exact absurd HOO.out hx
        obtain ⟨k, ck⟩ := HW1.out.is
        obtain ⟨p0, n0, c0, T0, r1⟩ := ck.is.cells
        have r3 := (r1.fr0 HF2.out).fr0 f3
        have hgw := HW1.out.g0
        have x1 := r3.c0
        have z1 := r3.fz 1
        have x2 := (r3.set0 q N d).c1
        have z2 := (r3.set0 q N d).fz 2
        have y0 := so.raw.c0
        have y1 := so.raw.c1
        have ff : Fr (· = g) w3 ((w3.setCell ⟨g, 1, none⟩ (.slice q N d)).setCell ⟨g, 2, none⟩ (.int .u64 (ltot (lputs [] l) : Nat))) := (Fr.setCell (· = g) _ _ _ rfl).trans (Fr.setCell (· = g) _ _ _ rfl) fun _ _ h => h
        have hff : Fr S0 w ((w3.setCell ⟨g, 1, none⟩ (.slice q N d)).setCell ⟨g, 2, none⟩ (.int .u64 (ltot (lputs [] l) : Nat))) := ((HW1.out.fr.trans0 HF2.out).trans0 f3).trans ff fun x hx e => (by omega)
        obtain ⟨U, hU⟩ : ∃ U, ltot (lputs [] l) = U := ⟨_, rfl⟩
        rw [hU] at hff y1
        have HFF := Lib.hid hff
        clear ff so f3 ck r1 r3 HO2 HW1 HF2 hgw hg0 hh0 hhl hU
        by_cases hnm : n < m
        · have d3 : decide (n < m) = true := decide_eq_true hnm
          have d4 : decide ((n : Int) < (m : Int)) = true := decide_eq_true (by omega)
          clear hff
          go_wp2_with fail
          go_ret2
          exact ⟨rfl, HFF.out⟩
        · have d3 : decide (n < m) = false := decide_eq_false hnm
          have d4 : decide ((n : Int) < (m : Int)) = false := decide_eq_false (by omega)
          obtain rfl : m = n := by omega
          have hl0 : 0 < l.length := by rw [HN.out]; omega
          have hm0 : (0 : Int) < (m : Int) := by have := HN.out; omega
          have hm1 : 0 < m := by omega
          obtain ⟨pb, po, rfl, e0, e1⟩ := HP.out.at 0 hl0
          obtain ⟨⟨tk, tn⟩, hx0⟩ : ∃ x, l[0] = x := ⟨_, rfl⟩
          have HHI := Lib.hid (fun W => khides_no tk tn f W fun hh => HNO.out ⟨by omega, by omega, by have := HN.out; omega, HG.out, .inr ⟨HN.out, (tk, tn), l.drop 1, by rw [← hx0]; exact (List.drop_eq_getElem_cons hl0).symm ▸ (List.drop_zero).symm, hh.1, hh.2⟩⟩)
          rw [hx0] at e0 e1
          simp only [Nat.zero_mul, Nat.add_zero] at e0 e1
          obtain ⟨W4, hW4⟩ : ∃ W4, ((w3.setCell ⟨g, 1, none⟩ (.slice q N d)).setCell ⟨g, 2, none⟩ (.int .u64 (U : Nat))) = W4 := ⟨_, rfl⟩
          rw [hW4] at hff HFF
          have e0 := hff.cell e0 (fun h => h)
          have e1 := hff.cell e1 (fun h => h)
          clear hff hx0 hl0
          go_wp2_with fail
          refine (HHI.out _).mono ?_
          rintro e w5 ⟨rfl, f5⟩
          have F5 := Lib.hid (HFF.out.trans0 f5)
          clear f5
          go_wp2_with fail
          go_ret2
          exact ⟨rfl, F5.out⟩
      · have HOO := Lib.hid hof
        clear hp hn hc hs h64 hm hno hof
        go_enter Tryz.func89, Tryz.ntmps89
        go_wp2_with fail
        refine HNEW.out.mono ?_
        rintro e w1 ⟨g, rfl, hnew⟩
        have F1 := Lib.hid hnew.fr
        have HR1 := Lib.hid (HRIS.out w1 hnew.fr)
        clear hnew HNEW HRIS
        go_wp2_with fail
        refine HR1.out.mono ?_
        rintro e w2 ⟨rfl, f2⟩
        have F2 := Lib.hid (F1.out.trans0 f2)
        have HO2 := Lib.hid (HOF.out w2 (F1.out.trans0 f2))
        clear f2 HR1 HOF
        go_wp2_with fail
        refine HO2.out.mono ?_
        rintro e w3 ⟨f3, ⟨hx, rfl⟩ | ⟨hx, -⟩⟩
        · have F3 := Lib.hid (F2.out.trans0 f3)
          obtain ⟨E, eE⟩ : ∃ E, O.ofE [] l = E := ⟨_, rfl⟩
          rw [eE] at hx
          rw [eE]
          have hE1 : ((E : Int) != 0) = true := by rw [bne_iff_ne]; omega
          have hE2 : ((E : Int) == 0) = false := by rw [beq_eq_false_iff_ne]; omega
          clear f3 eE HO2 HOO hx
          go_wp2_with fail
          go_ret2
          exact ⟨rfl, F3.out⟩
        · exact absurd hx HOO.out
end
end Go.Proofs.YtaemgflhgdlmiaaGreat
