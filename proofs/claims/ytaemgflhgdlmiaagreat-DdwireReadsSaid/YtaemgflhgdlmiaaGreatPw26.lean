/- DdSto -/
import Derived.Test.YtaemgflhgdlmiaaGreatPw1
import Derived.Test.YtaemgflhgdlmiaaGreatPw2
import Derived.Test.YtaemgflhgdlmiaaGreatPw4
import Derived.Test.YtaemgflhgdlmiaaGreatPw5
import Derived.Test.YtaemgflhgdlmiaaGreatPw6
import Derived.Test.YtaemgflhgdlmiaaGreatPw7
import Derived.Test.YtaemgflhgdlmiaaGreatPw8
import Derived.Test.YtaemgflhgdlmiaaGreatPw9
import Derived.Test.YtaemgflhgdlmiaaGreatPw10
import Derived.Test.YtaemgflhgdlmiaaGreatPw11
import Derived.Test.YtaemgflhgdlmiaaGreatPw12
import Derived.Test.YtaemgflhgdlmiaaGreatPw13
import Derived.Test.YtaemgflhgdlmiaaGreatPw14
import Derived.Test.YtaemgflhgdlmiaaGreatPw15
import Derived.Test.YtaemgflhgdlmiaaGreatPw16
import Derived.Test.YtaemgflhgdlmiaaGreatPw17
import Derived.Test.YtaemgflhgdlmiaaGreatPw18
import Derived.Test.YtaemgflhgdlmiaaGreatPw19
import Derived.Test.YtaemgflhgdlmiaaGreatPw20
import Derived.Test.YtaemgflhgdlmiaaGreatPw21
import Derived.Test.YtaemgflhgdlmiaaGreatPw22
import Derived.Test.YtaemgflhgdlmiaaGreatPw23
import Derived.Test.YtaemgflhgdlmiaaGreatPw24
import Derived.Test.YtaemgflhgdlmiaaGreatPw25
import Derived.WalkKit
import Derived.WalkSpells
import Derived.WalkLawsBesides
import Derived.Deep.QuietTactic
import Derived.BigQuiet
import Derived.RegionTactic
import Derived.Deep.AppendLies
import Derived.Deep.RegionLaw
import Derived.Laws.ResultCell
import Derived.Laws.EntriesVeiled
import Derived.Lib.Hide
import Derived.Test.YtaemgflhgdlmiaaGreatRows
import Derived.Deep.RegionHeld3
import Derived.Maps.AppendAt
import Derived.Lib.SliceRun
import Derived.StillTailTactics
import Derived.BigRegion
import Derived.Laws.BytesArg
import Derived.Lib.SlBytesConst
import Derived.Laws.AppendOwnNone
import Derived.Laws.Externs
import Derived.Shelf.Spec.BitsCarry
import Derived.Deep.CutBlock
import Derived.Deep.CutRange
import Derived.Deep.DeepCutAuto
import Derived.Lib.BitFns
import Derived.Shelf.Small.Bits
import Derived.Shelf.Strconv.Itoa0
import Derived.Shelf.Bits.Mul64
import Derived.Lib.AppendZeros
import Derived.Laws.CopyOwn
import Derived.Lib.Overlaps
import Derived.Lib.AppendZerosOnto
import Derived.Laws.OwnMore
import Derived.Shelf.SlSortCmp.WholeK
set_option maxRecDepth 100000
set_option maxHeartbeats 8000000
namespace Go.Proofs.YtaemgflhgdlmiaaGreat
open Go.RowKit
theorem Raw.ca {X : Sx} {w : World} {g : Nat} {p : Option Addr} {n c T : Nat} (r : Raw X w g p n c T) : w.cell? ⟨g, 0, none⟩ = some (.int .i64 (X.e.a : Int)) := by simp [World.cell?, r.blk]
theorem Raw.cs {X : Sx} {w : World} {g : Nat} {p : Option Addr} {n c T : Nat} (r : Raw X w g p n c T) : w.cell? ⟨g, 1, none⟩ = some (.slice X.e.p X.e.n X.e.c) := by simp [World.cell?, r.blk]
structure SkIs (w : World) (g h s A m : Nat) (a : List Pr) : Prop where
  ex : ∃ p c, Col ⟨A, p, sN A + 1, c⟩ w g h m a ∧ T3 w .u64 p (spns A (sN A)) ∧ ∀ x, p = some x → x.block = s
  sg : s ≠ g
  sh : s ≠ h
  a1 : 100 ≤ A
  a2 : A ≤ 5000
  ks : ∀ x ∈ a, - (sN A : Int) ≤ x.1 ∧ x.1 ≤ (sN A : Int)
theorem SkIs.sl {w : World} {g h s A m : Nat} {a : List Pr} (k : SkIs w g h s A m a) : s < w.heap.size := by
  obtain ⟨p, c, _, ht, hp⟩ := k.ex
  obtain ⟨b, o, e, _⟩ := ht.cel (by simp [spns])
  have h1 := ht.lt (by simp [spns]) _ e
  rw [← hp _ e]
  exact h1
theorem SkIs.fr {S : Nat → Prop} {w w' : World} {g h s A m : Nat} {a : List Pr} (k : SkIs w g h s A m a) (f : Fr S w w') (h1 : ¬ S g) (h2 : ¬ S h) (h3 : ¬ S s) : SkIs w' g h s A m a :=
  ⟨let ⟨p, c, x, y, z⟩ := k.ex; ⟨p, c, x.fr f h1 h2, y.fr f (fun b hb => by rw [z b hb]; exact h3), z⟩, k.sg, k.sh, k.a1, k.a2, k.ks⟩
theorem SkIs.fr0 {w w' : World} {g h s A m : Nat} {a : List Pr} (k : SkIs w g h s A m a) (f : Fr S0 w w') : SkIs w' g h s A m a := k.fr f (fun h => h) (fun h => h) fun h => h
theorem SkIs.sc {w : World} {g h s A m : Nat} {a : List Pr} (k : SkIs w g h s A m a) : ∃ p c, ScIs w g A p c :=
  let ⟨p, c, ⟨_, x⟩, y, _⟩ := k.ex
  let ⟨_, _, _, _, r⟩ := x.is.cells
  ⟨p, c, r.ca, r.cs, y, k.a1, k.a2⟩
theorem SkIs.col {w : World} {g h s A m : Nat} {a : List Pr} (k : SkIs w g h s A m a) : ∃ E, Col E w g h m a := let ⟨_, _, x, _⟩ := k.ex; ⟨_, x⟩
theorem SkIs.ok {w : World} {g h s A m : Nat} {a : List Pr} (k : SkIs w g h s A m a) : Good a := let ⟨_, x⟩ := k.col; x.ok
theorem SkIs.gl {w : World} {g h s A m : Nat} {a : List Pr} (k : SkIs w g h s A m a) : g < w.heap.size := let ⟨_, x⟩ := k.col; x.lt
theorem SkIs.m2 {w : World} {g h s A m : Nat} {a : List Pr} (k : SkIs w g h s A m a) : 2 ≤ m := let ⟨_, x⟩ := k.col; x.m2
theorem SkIs.m3 {w : World} {g h s A m : Nat} {a : List Pr} (k : SkIs w g h s A m a) : m ≤ 4096 := let ⟨_, x⟩ := k.col; x.m3
structure NewSk (w w' : World) (g h s A m : Nat) (a : List Pr) : Prop where
  is : SkIs w' g h s A m a
  g0 : w.heap.size ≤ g
  h0 : w.heap.size ≤ h
  hl : h < w'.heap.size
  s0 : w.heap.size ≤ s
  fr : Fr S0 w w'
theorem sk_made {W : World} {gk h s A m c : Nat} {p q : Option Addr} {n d T : Nat} {k : Int} {a : List Pr} (ck : K.ColK W gk h m k a) (so : K.Sto ⟨m, k, cutA a m⟩ W gk h q n d (cutN a m)) (hT : ltot (cutN a m) = T) (hh : h < W.heap.size)
    (ht : T3 W .u64 p (spns A (sN A))) (hp : ∀ x, p = some x → x.block = s) (hs : s < W.heap.size) (hsh : s ≠ h) (a1 : 100 ≤ A) (a2 : A ≤ 5000) (ks : ∀ x ∈ a, - (sN A : Int) ≤ x.1 ∧ x.1 ≤ (sN A : Int)) {W' : World} (f : Fr S0 W W') (G : Nat) (hG : W.heap.size ≤ G)
    (hb : W'.heap[G]? = some (.cells #[.int .i64 (A : Int), .slice p (sN A + 1) c, .int .i64 (m : Int), .slice q n d, .int .u64 (T : Int), .int .i64 k, .int .u64 (cutA a m : Int)] 101 (0, 0))) : SkIs W' G h s A m a := by
  refine ⟨⟨p, c, ⟨k, ?_, ck.key, ck.ok, ck.m2, ck.m3⟩, ht.fr0 f, hp⟩, by omega, hsh, a1, a2, ks⟩
  exact ⟨q, n, d, ⟨by rw [hT]; exact hb⟩, f.owns so.own fun _ _ h => h, so.row, fun _ => by omega, so.ok⟩
theorem knew_no (m : Int) (w : World) (h : m < 2 ∨ 4096 < m) : Calls Tryz.prog 49 #[.int .i64 m] w fun e w' => e = .returned (.tuple #[.pointer none, .int .i64 1]) ∧ Fr S0 w w' := by
  by_cases h1 : m < 2
  · go_enter Tryz.func49, Tryz.ntmps49
    go_wp2_with fail
    go_ret2
    exact ⟨rfl, Fr.refl _ _⟩
  · have h2 : 4096 < m := by omega
    go_enter Tryz.func49, Tryz.ntmps49
    go_wp2_with fail
    go_ret2
    exact ⟨rfl, Fr.refl _ _⟩
theorem ddnew_no (A m : Int) (w : World) (h : A < 100 ∨ 5000 < A ∨ m < 2 ∨ 4096 < m) : Calls Tryz.prog 24 #[.int .i64 A, .int .i64 m] w fun e w' => e = .returned (.tuple #[.pointer none, .int .i64 1]) ∧ Fr S0 w w' := by
  by_cases h1 : A < 100 ∨ 5000 < A
  · have H := Lib.hid (scnew_no A w h1)
    clear h h1
    go_enter Tryz.func24, Tryz.ntmps24
    go_wp2_with fail
    refine H.out.mono ?_
    rintro e w1 ⟨rfl, f1⟩
    have F1 := Lib.hid f1
    clear f1
    go_wp2_with fail
    go_ret2
    exact ⟨rfl, F1.out⟩
  · obtain ⟨n, rfl⟩ : ∃ n : Nat, A = (n : Int) := ⟨A.toNat, by omega⟩
    have H := Lib.hid (scnew_yes n w (by omega) (by omega))
    have H2 := Lib.hid (fun W => knew_no m W (by omega))
    clear h h1
    go_enter Tryz.func24, Tryz.ntmps24
    go_wp2_with fail
    refine H.out.mono ?_
    rintro e w1 ⟨g, p, c, rfl, hn⟩
    have F1 := Lib.hid hn.fr
    clear hn
    go_wp2_with fail
    refine (H2.out _).mono ?_
    rintro e w2 ⟨rfl, f2⟩
    have F2 := Lib.hid (F1.out.trans0 f2)
    clear f2
    go_wp2_with fail
    go_ret2
    exact ⟨rfl, F2.out⟩
theorem ddnew_yes (A m : Nat) (w : World) (h1 : 100 ≤ A) (h2 : A ≤ 5000) (h3 : 2 ≤ m) (h4 : m ≤ 4096) : Calls Tryz.prog 24 #[.int .i64 (A : Nat), .int .i64 (m : Nat)] w fun e w' => ∃ g h s, e = .returned (.tuple #[.pointer (some ⟨g, 0, none⟩), .int .i64 0]) ∧ NewSk w w' g h s A m [] := by
  have H := Lib.hid (scnew_yes A w h1 h2)
  have H2 := Lib.hid (fun W => K.new_yes m W h3 h4)
  have HH := Lib.hid (And.intro h1 h2)
  obtain ⟨N, eN⟩ : ∃ N, sN A + 1 = N := ⟨_, rfl⟩
  have EN := Lib.hid eN
  clear h1 h2 h3 h4 eN
  go_enter Tryz.func24, Tryz.ntmps24
  go_wp2_with fail
  refine H.out.mono ?_
  rintro e w1 ⟨gr, p, c, rfl, hn⟩
  have HN := Lib.hid hn
  clear hn H
  go_wp2_with fail
  refine (H2.out _).mono ?_
  rintro e w2 ⟨gk, rfl, hk⟩
  have HK := Lib.hid hk
  obtain ⟨k, ck⟩ := hk.is
  obtain ⟨q, n, d, so⟩ := ck.is
  obtain ⟨T, hT⟩ : ∃ T, ltot (cutN [] m) = T := ⟨_, rfl⟩
  obtain ⟨F, hF⟩ : ∃ F, cutA [] m = F := ⟨_, rfl⟩
  have HCK := Lib.hid (And.intro ck so)
  have r := so.raw
  have r0 := r.cb
  have r1 := r.c0
  have r2 := r.c1
  have r3 := r.ck
  have r4 := r.cf
  rw [hT] at r2
  simp only [hF] at r0 r3 r4
  have s1 := (HN.out.is.fr0 hk.fr).ca
  have s2 := (HN.out.is.fr0 hk.fr).cs
  rw [EN.out] at s2
  have HEND : Hid (∀ W, Fr S0 w2 W → W.heap[w2.heap.size]? = some (.cells #[.int .i64 (A : Int), .slice p N c, .int .i64 (m : Int), .slice q n d, .int .u64 (T : Int), .int .i64 k, .int .u64 (F : Int)] 101 (0, 0)) → ∃ s, NewSk w W w2.heap.size gk s A m []) := Lib.hid (by
    intro W f hb
    have ht := HN.out.is.row.fr0 HK.out.fr
    obtain ⟨b, o, e, _⟩ := ht.cel (by simp [spns])
    have hpl := HN.out.p0 _ e
    have hgl := HN.out.is
    have hkl := HK.out.hl
    have hkg := HK.out.g0
    have hws := HN.out.fr.size
    have hg1 : gr < w1.heap.size := World.block_lt_of_cell? _ _ hgl.ca
    simp only at hpl
    rw [← EN.out, ← hF] at hb
    refine ⟨b, sk_made HCK.out.1 HCK.out.2 hT hkl ht (fun x hx => by rw [e] at hx; rw [← Option.some.inj hx]) (by have := HK.out.fr.size; omega) (by omega) HH.out.1 HH.out.2 (fun x hx => by cases hx) f _ (Nat.le_refl _) hb, by have := HK.out.fr.size; omega, by omega, Nat.lt_of_lt_of_le hkl f.size, hpl.1, (HN.out.fr.trans0 HK.out.fr).trans0 f⟩)
  clear hk ck so r hT hF HCK HK HN H2 HH EN
  go_wp2_with fail
  go_region_law (fail)
  all_goals
    go_wp2_with fail
    go_ret2
    exact ⟨w2.heap.size, gk, _, rfl, (HEND.out _ ((Fr.drew S0 w2).trans0 (Fr.alloc S0 _ _)) (heap_alloc_new w2.drew _)).choose_spec⟩
end Go.Proofs.YtaemgflhgdlmiaaGreat
