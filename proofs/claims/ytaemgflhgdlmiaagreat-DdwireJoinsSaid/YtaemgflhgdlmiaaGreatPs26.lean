/- DdSto, DdCode -/
import Derived.Test.YtaemgflhgdlmiaaGreatPs1
import Derived.Test.YtaemgflhgdlmiaaGreatPs2
import Derived.Test.YtaemgflhgdlmiaaGreatPs4
import Derived.Test.YtaemgflhgdlmiaaGreatPs5
import Derived.Test.YtaemgflhgdlmiaaGreatPs6
import Derived.Test.YtaemgflhgdlmiaaGreatPs7
import Derived.Test.YtaemgflhgdlmiaaGreatPs8
import Derived.Test.YtaemgflhgdlmiaaGreatPs9
import Derived.Test.YtaemgflhgdlmiaaGreatPs10
import Derived.Test.YtaemgflhgdlmiaaGreatPs11
import Derived.Test.YtaemgflhgdlmiaaGreatPs12
import Derived.Test.YtaemgflhgdlmiaaGreatPs13
import Derived.Test.YtaemgflhgdlmiaaGreatPs14
import Derived.Test.YtaemgflhgdlmiaaGreatPs15
import Derived.Test.YtaemgflhgdlmiaaGreatPs16
import Derived.Test.YtaemgflhgdlmiaaGreatPs17
import Derived.Test.YtaemgflhgdlmiaaGreatPs18
import Derived.Test.YtaemgflhgdlmiaaGreatPs19
import Derived.Test.YtaemgflhgdlmiaaGreatPs20
import Derived.Test.YtaemgflhgdlmiaaGreatPs21
import Derived.Test.YtaemgflhgdlmiaaGreatPs22
import Derived.Test.YtaemgflhgdlmiaaGreatPs23
import Derived.Test.YtaemgflhgdlmiaaGreatPs24
import Derived.Test.YtaemgflhgdlmiaaGreatPs25
import Derived.WalkKit
import Derived.WalkSpells
import Derived.WalkLawsBesides
import Derived.Deep.QuietTactic
import Derived.BigQuiet
import Derived.RegionTactic
import Derived.Deep.AppendLies
import Derived.Deep.RegionLaw
import Derived.Laws.ResultCell
import Derived.Laws.EntriesVeiled
import Derived.Lib.Hide
import Derived.Test.YtaemgflhgdlmiaaGreatRows
import Derived.Deep.RegionHeld3
import Derived.Maps.AppendAt
import Derived.Lib.SliceRun
import Derived.StillTailTactics
import Derived.BigRegion
import Derived.Laws.BytesArg
import Derived.Lib.SlBytesConst
import Derived.Laws.AppendOwnNone
import Derived.Laws.Externs
import Derived.Shelf.Spec.BitsCarry
import Derived.Deep.CutBlock
import Derived.Deep.CutRange
import Derived.Deep.DeepCutAuto
import Derived.Lib.BitFns
import Derived.Shelf.Small.Bits
import Derived.Shelf.Strconv.Itoa0
import Derived.Shelf.Bits.Mul64
import Derived.Lib.AppendZeros
import Derived.Laws.CopyOwn
import Derived.Lib.Overlaps
import Derived.Lib.AppendZerosOnto
import Derived.Laws.OwnMore
import Derived.Shelf.SlSortCmp.WholeK
set_option maxRecDepth 100000
set_option maxHeartbeats 8000000
namespace Go.Proofs.YtaemgflhgdlmiaaGreat
open Go.RowKit
theorem Raw.ca {X : Sx} {w : World} {g : Nat} {p : Option Addr} {n c T : Nat} (r : Raw X w g p n c T) : w.cell? ⟨g, 0, none⟩ = some (.int .i64 (X.e.a : Int)) := by simp [World.cell?, r.blk]
theorem Raw.cs {X : Sx} {w : World} {g : Nat} {p : Option Addr} {n c T : Nat} (r : Raw X w g p n c T) : w.cell? ⟨g, 1, none⟩ = some (.slice X.e.p X.e.n X.e.c) := by simp [World.cell?, r.blk]
structure SkIs (w : World) (g h s A m : Nat) (a : List Pr) : Prop where
  ex : ∃ p c, Col ⟨A, p, sN A + 1, c⟩ w g h m a ∧ T3 w .u64 p (spns A (sN A)) ∧ ∀ x, p = some x → x.block = s
  sg : s ≠ g
  sh : s ≠ h
  a1 : 100 ≤ A
  a2 : A ≤ 5000
  ks : ∀ x ∈ a, - (sN A : Int) ≤ x.1 ∧ x.1 ≤ (sN A : Int)
theorem SkIs.sl {w : World} {g h s A m : Nat} {a : List Pr} (k : SkIs w g h s A m a) : s < w.heap.size := by
  obtain ⟨p, c, _, ht, hp⟩ := k.ex
  obtain ⟨b, o, e, _⟩ := ht.cel (by simp [spns])
  have h1 := ht.lt (by simp [spns]) _ e
  rw [← hp _ e]
  exact h1
theorem SkIs.fr {S : Nat → Prop} {w w' : World} {g h s A m : Nat} {a : List Pr} (k : SkIs w g h s A m a) (f : Fr S w w') (h1 : ¬ S g) (h2 : ¬ S h) (h3 : ¬ S s) : SkIs w' g h s A m a :=
  ⟨let ⟨p, c, x, y, z⟩ := k.ex; ⟨p, c, x.fr f h1 h2, y.fr f (fun b hb => by rw [z b hb]; exact h3), z⟩, k.sg, k.sh, k.a1, k.a2, k.ks⟩
theorem SkIs.fr0 {w w' : World} {g h s A m : Nat} {a : List Pr} (k : SkIs w g h s A m a) (f : Fr S0 w w') : SkIs w' g h s A m a := k.fr f (fun h => h) (fun h => h) fun h => h
theorem SkIs.sc {w : World} {g h s A m : Nat} {a : List Pr} (k : SkIs w g h s A m a) : ∃ p c, ScIs w g A p c :=
  let ⟨p, c, ⟨_, x⟩, y, _⟩ := k.ex
  let ⟨_, _, _, _, r⟩ := x.is.cells
  ⟨p, c, r.ca, r.cs, y, k.a1, k.a2⟩
theorem SkIs.col {w : World} {g h s A m : Nat} {a : List Pr} (k : SkIs w g h s A m a) : ∃ E, Col E w g h m a := let ⟨_, _, x, _⟩ := k.ex; ⟨_, x⟩
theorem SkIs.ok {w : World} {g h s A m : Nat} {a : List Pr} (k : SkIs w g h s A m a) : Good a := let ⟨_, x⟩ := k.col; x.ok
theorem SkIs.gl {w : World} {g h s A m : Nat} {a : List Pr} (k : SkIs w g h s A m a) : g < w.heap.size := let ⟨_, x⟩ := k.col; x.lt
theorem SkIs.m2 {w : World} {g h s A m : Nat} {a : List Pr} (k : SkIs w g h s A m a) : 2 ≤ m := let ⟨_, x⟩ := k.col; x.m2
theorem SkIs.m3 {w : World} {g h s A m : Nat} {a : List Pr} (k : SkIs w g h s A m a) : m ≤ 4096 := let ⟨_, x⟩ := k.col; x.m3
structure NewSk (w w' : World) (g h s A m : Nat) (a : List Pr) : Prop where
  is : SkIs w' g h s A m a
  g0 : w.heap.size ≤ g
  h0 : w.heap.size ≤ h
  hl : h < w'.heap.size
  s0 : w.heap.size ≤ s
  fr : Fr S0 w w'
theorem sk_made {W : World} {gk h s A m c : Nat} {p q : Option Addr} {n d T : Nat} {k : Int} {a : List Pr} (ck : K.ColK W gk h m k a) (so : K.Sto ⟨m, k, cutA a m⟩ W gk h q n d (cutN a m)) (hT : ltot (cutN a m) = T) (hh : h < W.heap.size)
    (ht : T3 W .u64 p (spns A (sN A))) (hp : ∀ x, p = some x → x.block = s) (hs : s < W.heap.size) (hsh : s ≠ h) (a1 : 100 ≤ A) (a2 : A ≤ 5000) (ks : ∀ x ∈ a, - (sN A : Int) ≤ x.1 ∧ x.1 ≤ (sN A : Int)) {W' : World} (f : Fr S0 W W') (G : Nat) (hG : W.heap.size ≤ G)
    (hb : W'.heap[G]? = some (.cells #[.int .i64 (A : Int), .slice p (sN A + 1) c, .int .i64 (m : Int), .slice q n d, .int .u64 (T : Int), .int .i64 k, .int .u64 (cutA a m : Int)] 101 (0, 0))) : SkIs W' G h s A m a := by
  refine ⟨⟨p, c, ⟨k, ?_, ck.key, ck.ok, ck.m2, ck.m3⟩, ht.fr0 f, hp⟩, by omega, hsh, a1, a2, ks⟩
  exact ⟨q, n, d, ⟨by rw [hT]; exact hb⟩, f.owns so.own fun _ _ h => h, so.row, fun _ => by omega, so.ok⟩
theorem knew_no (m : Int) (w : World) (h : m < 2 ∨ 4096 < m) : Calls Tryz.prog 49 #[.int .i64 m] w fun e w' => e = .returned (.tuple #[.pointer none, .int .i64 1]) ∧ Fr S0 w w' := by
  by_cases h1 : m < 2
  · go_enter Tryz.func49, Tryz.ntmps49
    go_wp2_with fail
    go_ret2
    exact ⟨rfl, Fr.refl _ _⟩
  · have h2 : 4096 < m := by omega
    go_enter Tryz.func49, Tryz.ntmps49
    go_wp2_with fail
    go_ret2
    exact ⟨rfl, Fr.refl _ _⟩
theorem ddnew_no (A m : Int) (w : World) (h : A < 100 ∨ 5000 < A ∨ m < 2 ∨ 4096 < m) : Calls Tryz.prog 24 #[.int .i64 A, .int .i64 m] w fun e w' => e = .returned (.tuple #[.pointer none, .int .i64 1]) ∧ Fr S0 w w' := by
  by_cases h1 : A < 100 ∨ 5000 < A
  · have H := Lib.hid (scnew_no A w h1)
    clear h h1
    go_enter Tryz.func24, Tryz.ntmps24
    go_wp2_with fail
    refine H.out.mono ?_
    rintro e w1 ⟨rfl, f1⟩
    have F1 := Lib.hid f1
    clear f1
    go_wp2_with fail
    go_ret2
    exact ⟨rfl, F1.out⟩
  · obtain ⟨n, rfl⟩ : ∃ n : Nat, A = (n : Int) := ⟨A.toNat, by omega⟩
    have H := Lib.hid (scnew_yes n w (by omega) (by omega))
    have H2 := Lib.hid (fun W => knew_no m W (by omega))
    clear h h1
    go_enter Tryz.func24, Tryz.ntmps24
    go_wp2_with fail
    refine H.out.mono ?_
    rintro e w1 ⟨g, p, c, rfl, hn⟩
    have F1 := Lib.hid hn.fr
    clear hn
    go_wp2_with fail
    refine (H2.out _).mono ?_
    rintro e w2 ⟨rfl, f2⟩
    have F2 := Lib.hid (F1.out.trans0 f2)
    clear f2
    go_wp2_with fail
    go_ret2
    exact ⟨rfl, F2.out⟩
theorem ddnew_yes (A m : Nat) (w : World) (h1 : 100 ≤ A) (h2 : A ≤ 5000) (h3 : 2 ≤ m) (h4 : m ≤ 4096) : Calls Tryz.prog 24 #[.int .i64 (A : Nat), .int .i64 (m : Nat)] w fun e w' => ∃ g h s, e = .returned (.tuple #[.pointer (some ⟨g, 0, none⟩), .int .i64 0]) ∧ NewSk w w' g h s A m [] := by
  have H := Lib.hid (scnew_yes A w h1 h2)
  have H2 := Lib.hid (fun W => K.new_yes m W h3 h4)
  have HH := Lib.hid (And.intro h1 h2)
  obtain ⟨N, eN⟩ : ∃ N, sN A + 1 = N := ⟨_, rfl⟩
  have EN := Lib.hid eN
  clear h1 h2 h3 h4 eN
  go_enter Tryz.func24, Tryz.ntmps24
  go_wp2_with fail
  refine H.out.mono ?_
  rintro e w1 ⟨gr, p, c, rfl, hn⟩
  have HN := Lib.hid hn
  clear hn H
  go_wp2_with fail
  refine (H2.out _).mono ?_
  rintro e w2 ⟨gk, rfl, hk⟩
  have HK := Lib.hid hk
  obtain ⟨k, ck⟩ := hk.is
  obtain ⟨q, n, d, so⟩ := ck.is
  obtain ⟨T, hT⟩ : ∃ T, ltot (cutN [] m) = T := ⟨_, rfl⟩
  obtain ⟨F, hF⟩ : ∃ F, cutA [] m = F := ⟨_, rfl⟩
  have HCK := Lib.hid (And.intro ck so)
  have r := so.raw
  have r0 := r.cb
  have r1 := r.c0
  have r2 := r.c1
  have r3 := r.ck
  have r4 := r.cf
  rw [hT] at r2
  simp only [hF] at r0 r3 r4
  have s1 := (HN.out.is.fr0 hk.fr).ca
  have s2 := (HN.out.is.fr0 hk.fr).cs
  rw [EN.out] at s2
  have HEND : Hid (∀ W, Fr S0 w2 W → W.heap[w2.heap.size]? = some (.cells #[.int .i64 (A : Int), .slice p N c, .int .i64 (m : Int), .slice q n d, .int .u64 (T : Int), .int .i64 k, .int .u64 (F : Int)] 101 (0, 0)) → ∃ s, NewSk w W w2.heap.size gk s A m []) := Lib.hid (by
    intro W f hb
    have ht := HN.out.is.row.fr0 HK.out.fr
    obtain ⟨b, o, e, _⟩ := ht.cel (by simp [spns])
    have hpl := HN.out.p0 _ e
    have hgl := HN.out.is
    have hkl := HK.out.hl
    have hkg := HK.out.g0
    have hws := HN.out.fr.size
    have hg1 : gr < w1.heap.size := World.block_lt_of_cell? _ _ hgl.ca
    simp only at hpl
    rw [← EN.out, ← hF] at hb
    refine ⟨b, sk_made HCK.out.1 HCK.out.2 hT hkl ht (fun x hx => by rw [e] at hx; rw [← Option.some.inj hx]) (by have := HK.out.fr.size; omega) (by omega) HH.out.1 HH.out.2 (fun x hx => by cases hx) f _ (Nat.le_refl _) hb, by have := HK.out.fr.size; omega, by omega, Nat.lt_of_lt_of_le hkl f.size, hpl.1, (HN.out.fr.trans0 HK.out.fr).trans0 f⟩)
  clear hk ck so r hT hF HCK HK HN H2 HH EN
  go_wp2_with fail
  go_region_law (fail)
  all_goals
    go_wp2_with fail
    go_ret2
    exact ⟨w2.heap.size, gk, _, rfl, (HEND.out _ ((Fr.drew S0 w2).trans0 (Fr.alloc S0 _ _)) (heap_alloc_new w2.drew _)).choose_spec⟩
end Go.Proofs.YtaemgflhgdlmiaaGreat

namespace Go.Proofs.YtaemgflhgdlmiaaGreat
open Go.RowKit
section
variable (g h s A m : Nat) (a : List Pr) (w : World)
theorem daccuracy_any (k : SkIs w g h s A m a) : Calls Tryz.prog 16 #[.pointer (some ⟨g, 0, none⟩)] w fun e w' => e = .returned (.int .i64 (A : Nat)) ∧ w = w' := by
  obtain ⟨p, c, sc⟩ := k.sc
  have H := Lib.hid (scacc_any g A c p w sc)
  clear sc k
  go_enter Tryz.func16, Tryz.ntmps16
  go_wp2_with fail
  refine H.out.mono ?_
  rintro e w1 ⟨rfl, rfl⟩
  go_wp2_with fail
  go_ret
  exact ⟨rfl, rfl⟩
theorem dbudget_any (k : SkIs w g h s A m a) : Calls Tryz.prog 17 #[.pointer (some ⟨g, 0, none⟩)] w fun e w' => e = .returned (.int .i64 (m : Nat)) ∧ Fr S0 w w' := by
  obtain ⟨E, sc⟩ := k.col
  have H := Lib.hid (cbudget_any g h m a w sc)
  clear sc k
  go_enter Tryz.func17, Tryz.ntmps17
  go_wp2_with fail
  refine H.out.mono ?_
  rintro e w1 ⟨rfl, f1⟩
  have F1 := Lib.hid f1
  clear f1
  go_wp2_with fail
  go_ret
  exact ⟨rfl, F1.out⟩
theorem dtotal_any (k : SkIs w g h s A m a) : Calls Tryz.prog 26 #[.pointer (some ⟨g, 0, none⟩)] w fun e w' => e = .returned (.int .u64 (ltot a : Nat)) ∧ Fr S0 w w' := by
  obtain ⟨E, sc⟩ := k.col
  have H := Lib.hid (ctotal_any g h m a w sc)
  clear sc k
  go_enter Tryz.func26, Tryz.ntmps26
  go_wp2_with fail
  refine H.out.mono ?_
  rintro e w1 ⟨rfl, f1⟩
  have F1 := Lib.hid f1
  clear f1
  go_wp2_with fail
  go_ret
  exact ⟨rfl, F1.out⟩
theorem dfolded_any (k : SkIs w g h s A m a) : Calls Tryz.prog 20 #[.pointer (some ⟨g, 0, none⟩)] w fun e w' => e = .returned (.int .u64 (cutA a m : Nat)) ∧ Fr S0 w w' := by
  obtain ⟨E, sc⟩ := k.col
  have H := Lib.hid (cfolded_any g h m a w sc)
  clear sc k
  go_enter Tryz.func20, Tryz.ntmps20
  go_wp2_with fail
  refine H.out.mono ?_
  rintro e w1 ⟨rfl, f1⟩
  have F1 := Lib.hid f1
  clear f1
  go_wp2_with fail
  go_ret
  exact ⟨rfl, F1.out⟩
theorem dpairs_any (k : SkIs w g h s A m a) : Calls Tryz.prog 19 #[.pointer (some ⟨g, 0, none⟩)] w fun e w' => ∃ p c n, e = .returned (.slice p n c) ∧ PrsNew w w' p c n (cutN a m) := by
  obtain ⟨E, sc⟩ := k.col
  have H := Lib.hid (cpairs_any g h m a w sc)
  clear sc k
  go_enter Tryz.func19, Tryz.ntmps19
  go_wp2_with fail
  refine H.out.mono ?_
  rintro e w1 ⟨p, c, n, rfl, f1⟩
  have F1 := Lib.hid f1
  clear f1
  go_wp2_with fail
  go_ret
  exact ⟨p, c, n, rfl, F1.out⟩
end
structure TurnS (w w' : World) (g h h' s A m : Nat) (a : List Pr) : Prop where
  is : SkIs w' g h' s A m a
  row : h' = h ∨ (w.heap.size ≤ h' ∧ h' < w'.heap.size)
  fr : Fr (fun x => x = g ∨ x = h) w w'
theorem TurnC.sk {w w' : World} {g h h' s A m c : Nat} {p : Option Addr} {a b : List Pr} (k : SkIs w g h s A m a) (hx : T3 w .u64 p (spns A (sN A)) ∧ ∀ x, p = some x → x.block = s) (t : TurnC ⟨A, p, sN A + 1, c⟩ w w' g h h' m b) (hb : ∀ x ∈ b, - (sN A : Int) ≤ x.1 ∧ x.1 ≤ (sN A : Int)) : TurnS w w' g h h' s A m b := by
  have hs := k.sl
  have h1 := k.sg
  have h2 := k.sh
  refine ⟨⟨⟨p, c, t.sto, hx.1.fr t.fr (fun y hy e => ?_), hx.2⟩, h1, ?_, k.a1, k.a2, hb⟩, t.row, t.fr⟩
  · rw [hx.2 y hy] at e
    omega
  · rcases t.row with e | e <;> omega
theorem addL_keys {N : Int} {a : List Pr} {k : Int} {n : Nat} (h : ∀ x ∈ a, - N ≤ x.1 ∧ x.1 ≤ N) (hk : - N ≤ k ∧ k ≤ N) : ∀ x ∈ addL0 a k n, - N ≤ x.1 ∧ x.1 ≤ N := by
  unfold addL0
  split
  · intro x hx
    rcases put_mem hx with e | e
    · rw [e]; exact hk
    · exact h x e
  · exact h
theorem takeL_keys {N : Int} {a b : List Pr} (h : ∀ x ∈ a, - N ≤ x.1 ∧ x.1 ≤ N) (hk : ∀ x ∈ b, - N ≤ x.1 ∧ x.1 ≤ N) : ∀ x ∈ takeL0 a b, - N ≤ x.1 ∧ x.1 ≤ N := by
  unfold takeL0
  split
  · intro x hx
    rcases putAll_mem _ _ _ hx with ⟨y, hy, e⟩ | e
    · rw [← e]; exact hk y hy
    · exact h x e
  · exact h
def ddE (A : Nat) (a : List Pr) (v : Int) (n : Nat) : Nat := if n = 0 then 4 else if v = -9223372036854775808 then 5 else addE0 a (skeyI A v) n
def ddL (A : Nat) (a : List Pr) (v : Int) (n : Nat) : List Pr := if n = 0 then a else if v = -9223372036854775808 then a else addL0 a (skeyI A v) n
theorem SkIs.same {w w' : World} {g h s A m : Nat} {a : List Pr} (k : SkIs w g h s A m a) (f : Fr S0 w w') : TurnS w w' g h h s A m a := ⟨k.fr0 f, .inl rfl, f.mono fun _ _ e => e.elim⟩
theorem TurnS.back {w W w' : World} {g h h' s A m : Nat} {l : List Pr} (f : Fr S0 w W) (t : TurnS W w' g h h' s A m l) : TurnS w w' g h h' s A m l :=
  ⟨t.is, t.row.imp id fun ⟨x, y⟩ => ⟨Nat.le_trans f.size x, y⟩, (f.mono fun _ _ h => h.elim).trans t.fr fun _ _ h => h⟩
section
variable (g h s A m n : Nat) (v : Int) (a : List Pr) (w : World)
theorem dadd_any (k : SkIs w g h s A m a) (hh : h < w.heap.size) (hn : n < 18446744073709551616) (h1 : -9223372036854775808 ≤ v) (h2 : v ≤ 9223372036854775807) :
    Calls Tryz.prog 25 #[.pointer (some ⟨g, 0, none⟩), .int .i64 v, .int .u64 (n : Nat)] w fun e w' => e = .returned (.int .i64 (ddE A a v n : Nat)) ∧ ∃ h', TurnS w w' g h h' s A m (ddL A a v n) := by
  unfold ddE ddL
  by_cases hn0 : n = 0
  · subst hn0
    rw [if_pos rfl, if_pos rfl]
    have HS := Lib.hid (k.same (Fr.refl S0 w))
    clear k
    go_enter Tryz.func25, Tryz.ntmps25
    go_wp2_with fail
    go_ret
    exact ⟨rfl, h, HS.out⟩
  · rw [if_neg hn0, if_neg hn0]
    obtain ⟨p, c, ⟨k0, sc⟩, ht, hp⟩ := k.ex
    obtain ⟨_, _, _, _, r⟩ := sc.is.cells
    have HK := Lib.hid (sckey_any g A c p w v ⟨r.ca, r.cs, ht, k.a1, k.a2⟩ h1 h2)
    have hd0 : ((n : Int) == 0) = false := by rw [beq_eq_false_iff_ne]; omega
    by_cases hv : v = -9223372036854775808
    · rw [if_pos hv, if_pos hv]
      rw [keyT, if_pos hv] at HK
      have HS := Lib.hid (fun W (f : Fr S0 w W) => k.same f)
      clear k sc ht hp r hn0 hv h1 h2
      go_enter Tryz.func25, Tryz.ntmps25
      go_wp2_with fail
      refine HK.out.mono ?_
      rintro e w1 ⟨rfl, f1⟩
      have HS1 := Lib.hid (HS.out _ f1)
      clear f1 HS HK
      go_wp2_with fail
      go_ret
      exact ⟨rfl, h, HS1.out⟩
    · rw [if_neg hv, if_neg hv]
      rw [keyT, if_neg hv] at HK
      have hin := skeyI_in k.a1 k.a2 (v := v) (by omega)
      obtain ⟨K, eK⟩ : ∃ K, skeyI A v = K := ⟨_, rfl⟩
      rw [eK] at HK hin ⊢
      have HADD := Lib.hid (fun W (f : Fr S0 w W) => cadd_any (E := ⟨A, p, sN A + 1, c⟩) g h m n K a W hn (Col.fr0 ⟨k0, sc⟩ f) (Nat.lt_of_lt_of_le hh f.size))
      have HS := Lib.hid (fun W (f : Fr S0 w W) W' h' (t : TurnC ⟨A, p, sN A + 1, c⟩ W W' g h h' m (addL0 a K n)) => TurnS.back f (TurnC.sk (k.fr0 f) ⟨ht.fr0 f, hp⟩ t (addL_keys k.ks hin)))
      obtain ⟨E, eE⟩ : ∃ E, addE0 a K n = E := ⟨_, rfl⟩
      rw [eE] at HADD ⊢
      clear k sc ht hp r hn0 hv h1 h2 hin eK eE hn hh
      go_enter Tryz.func25, Tryz.ntmps25
      go_wp2_with fail
      refine HK.out.mono ?_
      rintro e w1 ⟨rfl, f1⟩
      have HA1 := Lib.hid (HADD.out _ f1)
      have HS1 := Lib.hid (HS.out _ f1)
      clear f1 HS HK HADD
      go_wp2_with fail
      refine HA1.out.mono ?_
      rintro e w2 ⟨rfl, h', t⟩
      have HS2 := Lib.hid (HS1.out _ _ t)
      clear t HA1 HS1
      go_wp2_with fail
      go_ret
      exact ⟨rfl, h', HS2.out⟩
end
section
variable (g h s A m g2 h2 s2 B n : Nat) (a b : List Pr) (w : World)
def dtE (A m B n : Nat) (a b : List Pr) : Nat := if B ≠ A then 3 else if n ≠ m then 3 else takeE0 a b
def dtL (A m B n : Nat) (a b : List Pr) : List Pr := if B ≠ A then a else if n ≠ m then a else takeL0 a b
theorem dt_yes (A m : Nat) (a b : List Pr) : dtE A m A m a b = takeE0 a b ∧ dtL A m A m a b = takeL0 a b := by simp [dtE, dtL]
theorem dt_no {A m B n : Nat} (a b : List Pr) (h : B ≠ A ∨ n ≠ m) : dtE A m B n a b = 3 ∧ dtL A m B n a b = a := by
  unfold dtE dtL
  by_cases hB : B = A
  · have hn : n ≠ m := h.resolve_left (fun e => e hB)
    subst hB
    simp [hn]
  · simp [hB]
theorem dtake_any (k : SkIs w g h s A m a) (k2 : SkIs w g2 h2 s2 B n b) (hh : h < w.heap.size) :
    Calls Tryz.prog 46 #[.pointer (some ⟨g, 0, none⟩), .pointer (some ⟨g2, 0, none⟩)] w fun e w' => e = .returned (.int .i64 (dtE A m B n a b : Nat)) ∧ ∃ h', TurnS w w' g h h' s A m (dtL A m B n a b) := by
  have HA1 := Lib.hid (daccuracy_any g h s A m a w k)
  have HA2 := Lib.hid (daccuracy_any g2 h2 s2 B n b w k2)
  by_cases hB : B = A
  · subst hB
    obtain ⟨p, c, sc, ht, hp⟩ := k.ex
    obtain ⟨E2, sc2⟩ := k2.col
    by_cases hn : n = m
    · subst hn
      rw [(dt_yes B n a b).1, (dt_yes B n a b).2]
      have HT := Lib.hid (fun W (f : Fr S0 w W) => ctake_any g h g2 h2 n a b W (sc.fr0 f) (sc2.fr0 f) (Nat.lt_of_lt_of_le hh f.size))
      have HS := Lib.hid (fun W (f : Fr S0 w W) W' h' (t : TurnC ⟨B, p, sN B + 1, c⟩ W W' g h h' n (takeL0 a b)) => TurnS.back f (TurnC.sk (k.fr0 f) ⟨ht.fr0 f, hp⟩ t (takeL_keys k.ks k2.ks)))
      obtain ⟨E, eE⟩ : ∃ E, takeE0 a b = E := ⟨_, rfl⟩
      rw [eE] at HT ⊢
      clear k k2 sc sc2 ht hp eE hh
      go_enter Tryz.func46, Tryz.ntmps46
      go_wp2_with fail
      refine HA2.out.mono ?_
      rintro e w1 ⟨rfl, rfl⟩
      go_wp2_with fail
      refine HA1.out.mono ?_
      rintro e w1 ⟨rfl, rfl⟩
      go_wp2_with fail
      go_region_law (first
        | (go_simp; go_at_call 75; (with_reducible refine (HT.out _ (Fr.drew _ _)).mono ?_); rintro _ w2 ⟨rfl, h', t⟩; have HS2 := Lib.hid (HS.out _ (Fr.drew _ _) _ _ t); clear t; dsimp only))
      all_goals
        go_wp2_with fail
        go_ret
        exact ⟨rfl, h', HS2.out⟩
    · rw [(dt_no a b (.inr hn)).1, (dt_no a b (.inr hn)).2]
      have HT := Lib.hid (fun W (f : Fr S0 w W) => ctake_kind g h g2 h2 m n a b W (sc.fr0 f) (sc2.fr0 f) hn)
      have HS := Lib.hid (fun W (f : Fr S0 w W) => k.same f)
      clear k k2 sc sc2 ht hp hh
      go_enter Tryz.func46, Tryz.ntmps46
      go_wp2_with fail
      refine HA2.out.mono ?_
      rintro e w1 ⟨rfl, rfl⟩
      go_wp2_with fail
      refine HA1.out.mono ?_
      rintro e w1 ⟨rfl, rfl⟩
      go_wp2_with fail
      go_region_law (first
        | (go_simp; go_at_call 75; (with_reducible refine (HT.out _ (Fr.drew _ _)).mono ?_); rintro _ w2 ⟨rfl, f2⟩; have HS2 := Lib.hid (HS.out _ ((Fr.drew _ _).trans0 f2)); clear f2; dsimp only))
      all_goals
        go_wp2_with fail
        go_ret
        exact ⟨rfl, h, HS2.out⟩
  · rw [(dt_no a b (.inl hB)).1, (dt_no a b (.inl hB)).2]
    have hne : ((B : Int) != (A : Int)) = true := by rw [bne_iff_ne]; omega
    have hne2 : ((B : Int) == (A : Int)) = false := by rw [beq_eq_false_iff_ne]; omega
    have HS := Lib.hid (k.same (Fr.refl S0 w))
    clear k k2 hh hB
    go_enter Tryz.func46, Tryz.ntmps46
    go_wp2_with fail
    refine HA2.out.mono ?_
    rintro e w1 ⟨rfl, rfl⟩
    go_wp2_with fail
    refine HA1.out.mono ?_
    rintro e w1 ⟨rfl, rfl⟩
    go_wp2_with fail
    go_ret
    exact ⟨rfl, h, HS.out⟩
end
end Go.Proofs.YtaemgflhgdlmiaaGreat
