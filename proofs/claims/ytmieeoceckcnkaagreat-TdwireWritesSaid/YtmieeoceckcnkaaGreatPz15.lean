/- RgDg, RgAdd, RgAdd2 -/
import Derived.Test.YtmieeoceckcnkaaGreatPz1
import Derived.Test.YtmieeoceckcnkaaGreatPz2
import Derived.Test.YtmieeoceckcnkaaGreatPz3
import Derived.Test.YtmieeoceckcnkaaGreatPz4
import Derived.Test.YtmieeoceckcnkaaGreatPz5
import Derived.Test.YtmieeoceckcnkaaGreatPz6
import Derived.Test.YtmieeoceckcnkaaGreatPz7
import Derived.Test.YtmieeoceckcnkaaGreatPz10
import Derived.Test.YtmieeoceckcnkaaGreatPz11
import Derived.Test.YtmieeoceckcnkaaGreatPz12
import Derived.Test.YtmieeoceckcnkaaGreatPz13
import Derived.Test.YtmieeoceckcnkaaGreatPz14
import Derived.BigRegion
import Derived.BigQuiet
import Derived.Deep.RegionHeld3
import Derived.Lib.AppendZerosOnto
import Derived.Lib.SliceRun
import Derived.Lib.Walk
import Derived.StillTailTactics
import Derived.Deep.RegionLaw
import Derived.Maps.AppendAt
import Derived.Laws.AppendOwnNone
import Derived.Laws.OwnMore
import Derived.Laws.Externs
import Derived.Shelf.Spec.BitsCarry
import Derived.Deep.CutBlock
import Derived.Deep.CutRange
import Derived.Deep.DeepCutAuto
import Derived.Lib.BitFns
import Derived.Shelf.Small.Bits
import Derived.Shelf.Strconv.Itoa0
import Derived.Shelf.Bits.Mul64
import Derived.Test.YtmieeoceckcnkaaGreatRows
import Derived.WalkKit
import Derived.WalkSpells
import Derived.WalkLawsBesides
import Derived.Deep.QuietTactic
import Derived.RegionTactic
import Derived.Deep.AppendLies
import Derived.Laws.ResultCell
import Derived.Laws.EntriesVeiled
import Derived.Lib.Hide
import Derived.Laws.BytesArg
import Derived.Lib.SlBytesConst
set_option maxRecDepth 100000
set_option maxHeartbeats 8000000
namespace Go.Proofs.YtmieeoceckcnkaaGreat
open Go.RowKit
structure RgIs (w : World) (g : Nat) (C : Nat → Prop) (p : Option Addr) (n c : Nat) (q : Option Addr) (m e : Nat) (x : Dg) : Prop where
  blk : w.heap[g]? = some (.cells #[.int .i64 (x.d : Nat), .slice p n c, .slice q m e, .int .i64 x.lo, .int .i64 x.hi] 60 (0, 0))
  list : w.ownsRow 0 76 2 (.slice p n c) n (prs x.L)
  wait : w.ownsRow 0 76 2 (.slice q m e) m (prs x.W)
  apart : ∀ k, Value.ownBlock (.slice p n c) = some k → k ≠ g ∧ C k ∧ Value.ownBlock (.slice q m e) ≠ some k
  other : ∀ k, Value.ownBlock (.slice q m e) = some k → k ≠ g ∧ C k
  self : C g
  below : ∀ b, C b → b < w.heap.size
  good : x.Good
section
variable {S C : Nat → Prop} {w w' : World} {g n c m e : Nat} {p q : Option Addr} {x : Dg}
theorem RgIs.fr (s : RgIs w g C p n c q m e x) (f : Fr S w w') (ho : ∀ b, C b → ¬ S b) : RgIs w' g C p n c q m e x :=
  ⟨f.row s.blk (ho g s.self), f.owns s.list fun k hk => ho k (s.apart k hk).2.1, f.owns s.wait fun k hk => ho k (s.other k hk).2, s.apart, s.other, s.self, fun b hb => Nat.lt_of_lt_of_le (s.below b hb) f.size, s.good⟩
theorem RgIs.fr0 (s : RgIs w g C p n c q m e x) (f : Fr S0 w w') : RgIs w' g C p n c q m e x := s.fr f fun _ _ h => h
theorem RgIs.c0 (s : RgIs w g C p n c q m e x) : w.cell? ⟨g, 0, none⟩ = some (.int .i64 (x.d : Nat)) := by simp [World.cell?, s.blk]
theorem RgIs.c1 (s : RgIs w g C p n c q m e x) : w.cell? ⟨g, 1, none⟩ = some (.slice p n c) := by simp [World.cell?, s.blk]
theorem RgIs.c2 (s : RgIs w g C p n c q m e x) : w.cell? ⟨g, 2, none⟩ = some (.slice q m e) := by simp [World.cell?, s.blk]
theorem RgIs.c3 (s : RgIs w g C p n c q m e x) : w.cell? ⟨g, 3, none⟩ = some (.int .i64 x.lo) := by simp [World.cell?, s.blk]
theorem RgIs.c4 (s : RgIs w g C p n c q m e x) : w.cell? ⟨g, 4, none⟩ = some (.int .i64 x.hi) := by simp [World.cell?, s.blk]
theorem RgIs.z (s : RgIs w g C p n c q m e x) (k : Nat) : w.frozen? ⟨g, k, none⟩ = false := by simp [World.frozen?, s.blk]
theorem RgIs.slL (s : RgIs w g C p n c q m e x) : Sl w p n c x.L := Sl.ofOwns s.list
theorem RgIs.slW (s : RgIs w g C p n c q m e x) : Sl w q m e x.W := Sl.ofOwns s.wait
theorem RgIs.lt (s : RgIs w g C p n c q m e x) : g < w.heap.size := s.below g s.self
end
def RIs (w : World) (g : Nat) (C : Nat → Prop) (x : Dg) : Prop := ∃ p n c q m e, RgIs w g C p n c q m e x
theorem RIs.fr {S C : Nat → Prop} {w w' : World} {g : Nat} {x : Dg} (s : RIs w g C x) (f : Fr S w w') (ho : ∀ b, C b → ¬ S b) : RIs w' g C x := let ⟨p, n, c, q, m, e, s⟩ := s; ⟨p, n, c, q, m, e, s.fr f ho⟩
theorem RIs.fr0 {C : Nat → Prop} {w w' : World} {g : Nat} {x : Dg} (s : RIs w g C x) (f : Fr S0 w w') : RIs w' g C x := s.fr f fun _ _ h => h
def RTurn (w w' : World) (g : Nat) (C : Nat → Prop) (x : Dg) : Prop := ∃ C', RIs w' g C' x ∧ Fr C w w' ∧ ∀ b, C' b → C b ∨ w.heap.size ≤ b
theorem RTurn.after {w W w' : World} {g : Nat} {C C1 : Nat → Prop} {x : Dg} (f : Fr C w W) (hC : ∀ b, C1 b → C b ∨ w.heap.size ≤ b) (t : RTurn W w' g C1 x) : RTurn w w' g C x := by
  obtain ⟨C', s, f2, h2⟩ := t
  refine ⟨C', s, f.trans f2 fun j hj h => (hC j h).resolve_right (by omega), fun b hb => ?_⟩
  rcases h2 b hb with h | h
  · exact hC b h
  · exact .inr (Nat.le_trans f.size h)
theorem RTurn.same {w w' : World} {g : Nat} {C : Nat → Prop} {x : Dg} (s : RIs w g C x) (f : Fr S0 w w') : RTurn w w' g C x := ⟨C, s.fr0 f, f.mono fun _ _ h => h.elim, fun _ h => .inl h⟩
theorem five_set {w : World} {g : Nat} {a b c d e : Value} {t : TypeId} (h : w.heap[g]? = some (.cells #[a, b, c, d, e] t (0, 0))) (x y : Value) :
    (w.setCell ⟨g, 1, none⟩ x).heap[g]? = some (.cells #[a, x, c, d, e] t (0, 0)) ∧ (w.setCell ⟨g, 2, none⟩ x).heap[g]? = some (.cells #[a, b, x, d, e] t (0, 0)) ∧
    (w.setCell ⟨g, 3, none⟩ x).heap[g]? = some (.cells #[a, b, c, x, e] t (0, 0)) ∧ (w.setCell ⟨g, 4, none⟩ y).heap[g]? = some (.cells #[a, b, c, d, y] t (0, 0)) := by
  refine ⟨?_, ?_, ?_, ?_⟩ <;> (rw [heap_setCell_same w g _ _ _ _ h]; rfl)
section
variable (g : Nat) (C : Nat → Prop) (p : Option Addr) (n c : Nat) (q : Option Addr) (m e : Nat) (x : Dg) (w : World)
theorem rall_any (s : RgIs w g C p n c q m e x) (hN : x.all.length ≤ 500000000000) :
    Calls Tryz.prog 14 #[.pointer (some ⟨g, 0, none⟩)] w fun e w' => ∃ v, e = .returned v ∧ Acc 76 w w' v x.all.length x.all := by
  have hLl := s.slL.len
  have hWl := s.slW.len
  have hall : x.all.length = n + m := by unfold Dg.all; rw [List.length_append, hLl, hWl]
  have HC := Lib.hid (fun W (f : Fr S0 w W) => And.intro (s.fr0 f).c2 (And.intro (s.fr0 f).slL (s.fr0 f).slW))
  have c1 := s.c1
  have HR1 : Hid (Room n) := Lib.hid (Room.mk (by omega))
  have HR2 : Hid (Room (n + m)) := Lib.hid (Room.mk (by omega))
  have HA0 : Hid (Acc 76 w w (.slice none 0 0) 0 []) := Lib.hid (Acc.nil (Fr.refl _ _))
  have HE : Hid (x.all = x.L ++ x.W ∧ x.all.length = n + m) := Lib.hid ⟨rfl, hall⟩
  clear s hLl hWl hall hN
  go_enter Tryz.func14, Tryz.ntmps14
  go_wp2_with (first
    | ((with_reducible show wpList _ _ _ (Oper.mk (some 9) _ _ _ _ _ :: _) _ _); refine app_two elAm (.tmp 4) (.tmp 8) HA0.out (HC.out w (Fr.refl _ _)).2.1 (Nat.zero_add _) HR1.out rfl rfl rfl rfl ?_; intro q5 d5 w5 ha5; have HA5 := Lib.hid ha5; obtain ⟨k2, -, -⟩ := HC.out w5 ha5.fr; clear ha5)
    | ((with_reducible show wpList _ _ _ (Oper.mk (some 15) _ _ _ _ _ :: _) _ _); refine app_two elAm (.tmp 10) (.tmp 14) HA5.out (HC.out _ HA5.out.fr).2.2 rfl HR2.out rfl rfl rfl rfl ?_; intro q6 d6 w6 ha6; have HA6 := Lib.hid ha6; clear ha6))
  go_ret
  refine ⟨_, rfl, ?_⟩
  rw [HE.out.2, HE.out.1]
  exact HA6.out
theorem rpress_any (s : RgIs w g C p n c q m e x) (hN : x.all.length ≤ 500000000000) :
    Calls Tryz.prog 24 #[.pointer (some ⟨g, 0, none⟩)] w fun e w' => e = .returned (.tuple #[]) ∧ RTurn w w' g C x.press := by
  have HAL := Lib.hid (fun W (f : Fr S0 w W) => rall_any g C p n c q m e x W (s.fr0 f) hN)
  have HPR := Lib.hid (fun W v (a : Acc 76 w W v x.all.length x.all) => show Calls Tryz.prog 43 #[.int .i64 (x.d : Nat), v] W (fun e w' => ∃ pv k cv, e = .returned (.slice pv k cv) ∧ Acc 76 w w' (.slice pv k cv) k (press x.d x.all)) from by
    obtain ⟨pv, cv, rfl⟩ := slFormN a.own
    refine (rpressed_any x.d x.lo x.hi pv _ cv x.all W (Sl.ofOwns a.own) hN s.good.d2 s.good.fit s.good.l1 s.good.h2 s.good.tot).mono ?_
    rintro e1 w' ⟨v, k, rfl, ha⟩
    obtain ⟨p2, c2, rfl⟩ := slFormN ha.own
    exact ⟨p2, k, c2, rfl, ha.from a.fr⟩)
  have HS := Lib.hid s
  have HC := Lib.hid (fun W (f : Fr S0 w W) => And.intro (s.fr0 f).c0 (And.intro (s.fr0 f).c1 (And.intro ((s.fr0 f).z 1) (And.intro (s.fr0 f).c2 ((s.fr0 f).z 2)))))
  obtain ⟨k0, k1, z1, k2, z2⟩ := HC.out w (Fr.refl _ _)
  obtain ⟨A, eA⟩ : ∃ A, x.all = A := ⟨_, rfl⟩
  obtain ⟨D, eD⟩ : ∃ D, x.d = D := ⟨_, rfl⟩
  rw [eA] at HAL
  rw [eA, eD] at HPR
  rw [eD] at HC k0
  have HAD := Lib.hid (And.intro eA eD)
  clear s hN eA eD
  go_enter Tryz.func24, Tryz.ntmps24
  go_wp2_with fail
  go_region_law (first
    | (go_simp; go_at_call 14; (with_reducible refine (HAL.out _ (Fr.drew S0 _)).mono ?_); rintro _ w1 ⟨v1, rfl, a1⟩; have A1 := Lib.hid (a1.from (Fr.drew S0 w)); obtain ⟨k3, -, -⟩ := HC.out w1 A1.out.fr; clear a1; dsimp only)
    | (go_simp; go_at_call 43; (with_reducible refine (HPR.out _ _ A1.out).mono ?_); rintro _ w2 ⟨pv, k, cv, rfl, a2⟩; have A2 := Lib.hid a2; obtain ⟨-, k4, z4, k5, z5⟩ := HC.out w2 a2.fr; clear a2; dsimp only)
    | fail)
  all_goals
    have hg := HS.out.lt
    have hne : ∀ y, Value.ownBlock (.slice pv k cv) = some y → y ≠ g := fun y hy e => by have := A2.out.fresh y hy; omega
    have HNE := Lib.hid hne
    have hb1 := (five_set (HS.out.fr0 A2.out.fr).blk (.slice pv k cv) (.slice pv k cv)).1
    have hb2 := (five_set hb1 (.slice none 0 0) (.slice none 0 0)).2.1
    have HB2 := Lib.hid hb2
    have k9 : (w2.setCell ⟨g, 1, none⟩ (.slice pv k cv)).cell? ⟨g, 2, none⟩ = some (.slice q m e) := by rw [World.cell?, hb1]; rfl
    have z9 : (w2.setCell ⟨g, 1, none⟩ (.slice pv k cv)).frozen? ⟨g, 2, none⟩ = false := by simp [World.frozen?, hb1]
    clear hb1 hb2 hne hg
    go_wp2_with fail
    go_end0
    have f2 : Fr (· = g) w2 ((w2.setCell ⟨g, 1, none⟩ (.slice pv k cv)).setCell ⟨g, 2, none⟩ (.slice none 0 0)) := (Fr.setCell (· = g) _ _ _ rfl).trans (Fr.setCell (· = g) _ _ _ rfl) fun _ _ h => h
    refine ⟨rfl, fun b => b = g ∨ Value.ownBlock (.slice pv k cv) = some b, ⟨pv, k, cv, none, 0, 0, HB2.out, ?_, World.ownsRow_nil _ _ _ _, fun y hy => ⟨HNE.out y hy, .inr hy, by simp [Value.ownBlock]⟩, fun y hy => by simp [Value.ownBlock] at hy, .inl rfl, fun b hb => ?_, HS.out.good.press⟩, ?_, fun b hb => ?_⟩
    · show World.ownsRow _ 0 _ 2 _ _ (prs (press x.d x.all))
      rw [HAD.out.1, HAD.out.2]
      exact f2.owns A2.out.own fun y hy e => HNE.out y hy e
    · rcases hb with rfl | hb
      · exact Nat.lt_of_lt_of_le HS.out.lt (Nat.le_trans A2.out.fr.size f2.size)
      · exact Nat.lt_of_lt_of_le (A2.out.own.lt b hb).2 f2.size
    · exact (A2.out.fr.mono fun _ _ h => h.elim).trans f2 fun j _ e => by have e2 : j = g := e; rw [e2]; exact HS.out.self
    · rcases hb with rfl | hb
      · exact .inl HS.out.self
      · exact .inr (A2.out.fresh b hb)
end
end Go.Proofs.YtmieeoceckcnkaaGreat

namespace Go.Proofs.YtmieeoceckcnkaaGreat
open Go.RowKit
theorem RgIs.came {g : Nat} {C : Nat → Prop} {p : Option Addr} {n c : Nat} {q : Option Addr} {m e : Nat} {x : Dg} {w w5 w6 : World} (s : RgIs w g C p n c q m e x) {l : List Tm} {lo hi : Int} (hg : (x.come l lo hi).Good) (f5 : Fr (· = g) w w5)
    (hb5 : w5.heap[g]? = some (.cells #[.int .i64 (x.d : Nat), .slice p n c, .slice q m e, .int .i64 (x.come l lo hi).lo, .int .i64 (x.come l lo hi).hi] 60 (0, 0)))
    {q' : Option Addr} {k e' : Nat} (hown : w6.ownsRow 0 76 2 (.slice q' k e') k (prs (x.W ++ l))) (hgr : w5.grownBy w6 (Value.ownBlock (.slice q m e)))
    (hat : Value.ownBlock (.slice q' k e') = Value.ownBlock (.slice q m e) ∨ ∃ y, Value.ownBlock (.slice q' k e') = some y ∧ w.heap.size ≤ y) :
    w6.cell? ⟨g, 2, none⟩ = some (.slice q m e) ∧ w6.frozen? ⟨g, 2, none⟩ = false ∧ ∃ C1, RgIs (w6.setCell ⟨g, 2, none⟩ (.slice q' k e')) g C1 p n c q' k e' (x.come l lo hi) ∧ Fr C w (w6.setCell ⟨g, 2, none⟩ (.slice q' k e')) ∧ ∀ b, C1 b → C b ∨ w.heap.size ≤ b := by
  have hgq : ∀ y, Value.ownBlock (.slice q m e) = some y → y ≠ g := fun y hy => (s.other y hy).1
  have hgm : g < w.heap.size := s.lt
  have hb6 := (Fr.grown hgr).row hb5 fun e => hgq g e rfl
  have fl : Fr (fun j => j = g ∨ Value.ownBlock (.slice q m e) = some j) w w6 := (f5.mono fun _ _ h => .inl h).trans (Fr.grown hgr) fun _ _ h => .inr h
  have hq' : ∀ y, Value.ownBlock (.slice q' k e') = some y → y ≠ g ∧ (Value.ownBlock (.slice q m e) = some y ∨ w.heap.size ≤ y) := by
    intro y hy
    rcases hat with h | ⟨z, h, hz⟩
    · rw [hy] at h
      exact ⟨hgq y h.symm, .inl h.symm⟩
    · rw [hy] at h
      obtain rfl := Option.some.inj h
      exact ⟨by omega, .inr hz⟩
  have fs : Fr (· = g) w6 (w6.setCell ⟨g, 2, none⟩ (.slice q' k e')) := Fr.setCell (· = g) _ _ _ rfl
  have hp : ∀ y, Value.ownBlock (.slice p n c) = some y → ¬ (y = g ∨ Value.ownBlock (.slice q m e) = some y) := fun y hy h => by
    rcases h with h | h
    · exact (s.apart y hy).1 h
    · exact (s.apart y hy).2.2 h
  refine ⟨by simp [World.cell?, hb6], by simp [World.frozen?, hb6], fun b => C b ∨ Value.ownBlock (.slice q' k e') = some b, ⟨(five_set hb6 (.slice q' k e') (.slice q' k e')).2.1, ?_, ?_, fun y hy => ⟨(s.apart y hy).1, .inl (s.apart y hy).2.1, fun h => ?_⟩, fun y hy => ⟨(hq' y hy).1, .inr hy⟩, .inl s.self, fun b hb => ?_, hg⟩, ?_, fun b hb => ?_⟩
  · exact fs.owns (fl.owns s.list hp) fun y hy e => (s.apart y hy).1 e
  · exact fs.owns hown fun y hy e => (hq' y hy).1 e
  · rcases (hq' y h).2 with h2 | h2
    · exact (s.apart y hy).2.2 h2
    · have := (s.list.lt y hy).2
      omega
  · rcases hb with hb | hb
    · exact Nat.lt_of_lt_of_le (s.below b hb) (Nat.le_trans fl.size fs.size)
    · exact Nat.lt_of_lt_of_le (hown.lt b hb).2 fs.size
  · refine (fl.mono fun j _ h => ?_).trans fs fun j _ h => ?_
    · rcases h with h | h
      · rw [h]; exact s.self
      · exact (s.other j h).2
    · have h2 : j = g := h
      rw [h2]; exact s.self
  · rcases hb with hb | hb
    · exact .inl hb
    · rcases (hq' b hb).2 with h2 | h2
      · exact .inl (s.other b h2).2
      · exact .inr h2
theorem cells5 {w : World} {g : Nat} {a b c d e : Value} {t : TypeId} (h : w.heap[g]? = some (.cells #[a, b, c, d, e] t (0, 0))) :
    w.cell? ⟨g, 0, none⟩ = some a ∧ w.cell? ⟨g, 1, none⟩ = some b ∧ w.cell? ⟨g, 2, none⟩ = some c ∧ w.cell? ⟨g, 3, none⟩ = some d ∧ w.cell? ⟨g, 4, none⟩ = some e ∧ (∀ k, w.frozen? ⟨g, k, none⟩ = false) := by
  simp [World.cell?, World.frozen?, h]
section
variable (g : Nat) (C : Nat → Prop) (p : Option Addr) (n c : Nat) (q : Option Addr) (m e : Nat) (x : Dg) (w : World)
theorem rends_any (s : RgIs w g C p n c q m e x) (lo hi : Int) (l : List Tm) (hN : x.all.length ≤ 500000000000) :
    Calls Tryz.prog 38 #[.pointer (some ⟨g, 0, none⟩), .int .i64 lo, .int .i64 hi] w fun e1 w' => e1 = .returned (.tuple #[]) ∧ Fr (· = g) w w' ∧
      w'.heap[g]? = some (.cells #[.int .i64 (x.d : Nat), .slice p n c, .slice q m e, .int .i64 (x.come l lo hi).lo, .int .i64 (x.come l lo hi).hi] 60 (0, 0)) := by
  have hLl := s.slL.len
  have hWl := s.slW.len
  have hall : x.all.length = n + m := by unfold Dg.all; rw [List.length_append, hLl, hWl]
  have hb := s.blk
  obtain ⟨D, eD⟩ : ∃ D, x.d = D := ⟨_, rfl⟩
  rw [eD] at hb ⊢
  obtain ⟨c0, c1, c2, c3, c4, hz⟩ := cells5 hb
  have z3 := hz 3
  have z4 := hz 4
  by_cases h0 : n + m = 0
  · have hn : x.all = [] := List.eq_nil_of_length_eq_zero (by omega)
    have e1 : (x.come l lo hi).lo = lo := by simp only [Dg.come, if_pos hn]
    have e2 : (x.come l lo hi).hi = hi := by simp only [Dg.come, if_pos hn]
    rw [e1, e2]
    have i0 : (n : Int) + (m : Int) = 0 := by omega
    obtain rfl : n = 0 := by omega
    obtain rfl : m = 0 := by omega
    have m1 : min lo lo = lo := by omega
    have m2 : max hi hi = hi := by omega
    have HB := Lib.hid (fun W (f : Fr S0 w W) => show ((((W.setCell ⟨g, 3, none⟩ (.int .i64 lo)).setCell ⟨g, 4, none⟩ (.int .i64 hi)).setCell ⟨g, 3, none⟩ (.int .i64 lo)).setCell ⟨g, 4, none⟩ (.int .i64 hi)).heap[g]? = some (.cells #[.int .i64 (D : Nat), .slice p 0 c, .slice q 0 e, .int .i64 lo, .int .i64 hi] 60 (0, 0)) from by
      have b1 := (five_set (f.row hb fun h => h) (.int .i64 lo) (.int .i64 lo)).2.2.1
      have b2 := (five_set b1 (.int .i64 hi) (.int .i64 hi)).2.2.2
      have b3 := (five_set b2 (.int .i64 lo) (.int .i64 lo)).2.2.1
      exact (five_set b3 (.int .i64 hi) (.int .i64 hi)).2.2.2)
    clear s hLl hWl hall hb eD h0 hn e1 e2 hN hz
    go_enter Tryz.func38, Tryz.ntmps38
    go_wp2_with fail
    go_quiet (fail)
    go_wp2_with fail
    go_end0
    refine ⟨rfl, ?_, HB.out _ (Fr.drewN S0 w _)⟩
    exact (((((Fr.drewN S0 w _).mono fun _ _ h => h.elim).trans (Fr.setCell (· = g) _ _ _ rfl) fun _ _ h => h).trans (Fr.setCell (· = g) _ _ _ rfl) fun _ _ h => h).trans (Fr.setCell (· = g) _ _ _ rfl) fun _ _ h => h).trans (Fr.setCell (· = g) _ _ _ rfl) fun _ _ h => h
  · have hn : x.all ≠ [] := fun e => h0 (by rw [← hall, e]; rfl)
    obtain ⟨LO, eLO⟩ : ∃ LO, (x.come l lo hi).lo = LO := ⟨_, rfl⟩
    obtain ⟨HI, eHI⟩ : ∃ HI, (x.come l lo hi).hi = HI := ⟨_, rfl⟩
    have e1 : min x.lo lo = LO := by rw [← eLO, Int.min_def]; simp only [Dg.come, if_neg hn]; split <;> split <;> omega
    have e2 : max x.hi hi = HI := by rw [← eHI, Int.max_def]; simp only [Dg.come, if_neg hn]; split <;> split <;> omega
    rw [eLO, eHI]
    obtain ⟨N, eN⟩ : ∃ N, n + m = N := ⟨_, rfl⟩
    have i0 : (n : Int) + (m : Int) = (N : Int) := by omega
    have wN : IntKind.i64.wrap (N : Int) = (N : Int) := by rw [IntKind.wrap_i64]; omega
    have hNe : ((N : Int) == 0) = false := by rw [beq_eq_false_iff_ne]; omega
    obtain ⟨X1, eX1⟩ : ∃ X1, x.lo = X1 := ⟨_, rfl⟩
    obtain ⟨X2, eX2⟩ : ∃ X2, x.hi = X2 := ⟨_, rfl⟩
    rw [eX1] at c3 hb e1
    rw [eX2] at c4 hb e2
    have HB := Lib.hid (fun W (f : Fr S0 w W) => show ((W.setCell ⟨g, 3, none⟩ (.int .i64 LO)).setCell ⟨g, 4, none⟩ (.int .i64 HI)).heap[g]? = some (.cells #[.int .i64 (D : Nat), .slice p n c, .slice q m e, .int .i64 LO, .int .i64 HI] 60 (0, 0)) from by
      have b1 := (five_set (f.row hb fun h => h) (.int .i64 LO) (.int .i64 LO)).2.2.1
      exact (five_set b1 (.int .i64 HI) (.int .i64 HI)).2.2.2)
    clear s hLl hWl hall hb eD h0 hn hN hz eLO eHI eN eX1 eX2
    go_enter Tryz.func38, Tryz.ntmps38
    go_wp2_with fail
    go_quiet (fail)
    go_wp2_with fail
    go_end0
    refine ⟨rfl, ?_, HB.out _ (Fr.drewN S0 w _)⟩
    exact ((((Fr.drewN S0 w _).mono fun _ _ h => h.elim).trans (Fr.setCell (· = g) _ _ _ rfl) fun _ _ h => h).trans (Fr.setCell (· = g) _ _ _ rfl) fun _ _ h => h)
end
end Go.Proofs.YtmieeoceckcnkaaGreat

namespace Go.Proofs.YtmieeoceckcnkaaGreat
open Go.RowKit
section
variable (g : Nat) (C : Nat → Prop) (p : Option Addr) (n c : Nat) (q : Option Addr) (m e : Nat) (x : Dg) (w : World)
theorem rgadd_any (v : Int) (u : Nat) (s : RgIs w g C p n c q m e x) (h1 : -9223372036854775808 ≤ v) (h2 : v ≤ 9223372036854775807) (hN : x.all.length ≤ 400000000000) :
    Calls Tryz.prog 22 #[.pointer (some ⟨g, 0, none⟩), .int .i64 v, .int .u64 (u : Nat)] w fun e w' => e = .returned (.int .i64 (x.ref u : Nat)) ∧ RTurn w w' g C (x.add v u) := by
  have HS0 : Hid (∀ W, Fr S0 w W → RTurn w W g C x) := Lib.hid fun W f => RTurn.same ⟨p, n, c, q, m, e, s⟩ f
  unfold Dg.add Dg.ref
  by_cases hu0 : u = 0
  · subst hu0
    rw [if_pos rfl, if_neg (by decide)]
    clear s
    go_enter Tryz.func22, Tryz.ntmps22
    go_wp2_with fail
    go_ret
    exact ⟨rfl, HS0.out _ (Fr.refl _ _)⟩
  · rw [if_neg hu0]
    have hui : ((u : Int) == 0) = false := by rw [beq_eq_false_iff_ne]; omega
    have HAL := Lib.hid (rall_any g C p n c q m e x w s (by omega))
    have htot := s.good.tot
    have HTO := Lib.hid (fun pv cv W (a : Acc 76 w W (.slice pv x.all.length cv) x.all.length x.all) => rtotal_any pv x.all.length cv x.all W (Sl.ofOwns a.own) (by have : wts x.all = x.tot := rfl; omega))
    obtain ⟨T, eT⟩ : ∃ T, x.tot = T := ⟨_, rfl⟩
    have eT2 : wts x.all = T := eT
    rw [eT2] at HTO
    rw [eT] at htot ⊢
    obtain ⟨k, ek⟩ : ∃ k, x.all.length = k := ⟨_, rfl⟩
    rw [ek] at HAL HTO
    obtain ⟨R, eR⟩ : ∃ R, 281474976710656 - T = R := ⟨_, rfl⟩
    have iR : (281474976710656 : Int) - (T : Int) = (R : Int) := by omega
    have bR : (R : Int) ≤ 281474976710656 := by omega
    by_cases hcap : 281474976710656 < T + u
    · rw [if_pos hcap, if_neg (by decide)]
      have hRu : (R : Int) < (u : Int) := by omega
      clear s htot eT eT2 ek eR hcap hu0
      go_enter Tryz.func22, Tryz.ntmps22
      go_wp2_with fail
      refine HAL.out.mono ?_
      rintro e1 w1 ⟨v1, rfl, a1⟩
      obtain ⟨pv, cv, rfl⟩ := slFormN a1.own
      have A1 := Lib.hid a1
      clear a1 HAL
      go_wp2_with fail
      refine (HTO.out _ _ _ A1.out).mono ?_
      rintro e2 w2 ⟨rfl, rfl⟩
      have HE := Lib.hid (HS0.out _ A1.out.fr)
      clear HTO
      go_wp2_with fail
      go_ret
      exact ⟨rfl, HE.out⟩
    · rw [if_neg hcap, if_pos rfl]
      have hRu : ¬ (R : Int) < (u : Int) := by omega
      have hWl := s.slW.len
      have hdd := s.good.d2
      have hgood := s.good.come (l := [(v, u)]) (lo := v) (hi := v) (by intro t ht; rw [List.mem_singleton.1 ht]; exact ⟨Int.le_refl _, Int.le_refl _, by simp only; omega⟩) (by simp) h1 h2 h1 h2 (by simp [wts]; omega)
      have hmx : m ≤ k := by rw [← ek]; unfold Dg.all; rw [List.length_append]; omega
      have HEN := Lib.hid (fun W (f : Fr S0 w W) => rends_any g C p n c q m e x W (s.fr0 f) v v [(v, u)] (by omega))
      have HOW := Lib.hid (fun W W2 (f : Fr S0 w W) (f2 : Fr (· = g) W W2) => f2.owns (s.fr0 f).wait fun y hy e => (s.other y hy).1 e)
      have HCA := Lib.hid (fun W w5 w6 q' k' e' (f : Fr S0 w W) => (s.fr0 f).came (w5 := w5) (w6 := w6) (q' := q') (k := k') (e' := e') hgood)
      have HR1 : Hid (Room (m + 1)) := Lib.hid (Room.mk (by omega))
      have hfull : (x.come [(v, u)] v v).full = if x.d ≤ m + 1 then (x.come [(v, u)] v v).press else x.come [(v, u)] v v := by
        unfold Dg.full
        have : (x.come [(v, u)] v v).W.length = m + 1 := by simp [Dg.come]; omega
        rw [this]
        rfl
      rw [hfull]
      have HPR := Lib.hid (fun W C p n c q m e (s' : RgIs W g C p n c q m e (x.come [(v, u)] v v)) => rpress_any g C p n c q m e _ W s' (by rw [Dg.come_all, List.length_append, ek]; simp; omega))
      have HLT := Lib.hid s.lt
      obtain ⟨D, eD⟩ : ∃ D, x.d = D := ⟨_, rfl⟩
      have hcd : (x.come [(v, u)] v v).d = D := eD
      rw [eD] at HEN HCA hdd
      rw [eD]
      obtain ⟨Y, eY⟩ : ∃ Y, x.come [(v, u)] v v = Y := ⟨_, rfl⟩
      rw [eY] at HEN HCA HPR hcd
      rw [eY]
      have HCD := Lib.hid hcd
      clear s htot eT eT2 eR hcap hu0 hWl hgood hfull eD hcd eY
      go_enter Tryz.func22, Tryz.ntmps22
      go_wp2_with fail
      refine HAL.out.mono ?_
      rintro e1 w1 ⟨v1, rfl, a1⟩
      obtain ⟨pv, cv, rfl⟩ := slFormN a1.own
      have A1 := Lib.hid a1
      clear a1 HAL
      go_wp2_with fail
      refine (HTO.out _ _ _ A1.out).mono ?_
      rintro e2 w2 ⟨rfl, rfl⟩
      have F1 := Lib.hid A1.out.fr
      clear HTO A1
      go_wp2_with fail
      refine (HEN.out _ F1.out).mono ?_
      rintro e3 w3 ⟨rfl, f3, b3⟩
      have F3 := Lib.hid f3
      have B3 := Lib.hid b3
      have k2 := (cells5 b3).2.2.1
      have HO3 := Lib.hid (HOW.out _ _ F1.out f3)
      clear HEN f3 b3 HOW
      go_wp2_with (at_builtin; refine app_one elAm (.tmp 23) (.tmp 27) rfl HO3.out rfl rfl rfl rfl rfl (one_pr v u) HR1.out ?_; intro g1 cap1 w4 hown hgrow hat hlt; obtain ⟨y0, y1, y2⟩ := HCA.out _ _ _ _ _ _ F1.out (F3.out.trans (Fr.alloc _ _ _) fun _ _ h => h) ((Fr.alloc S0 _ _).row B3.out fun h => h) (by rw [prs_snoc]; exact hown) hgrow (hat.imp (fun h => (show Value.ownBlock (.slice (some ⟨g1, 0, none⟩) (m + 1) cap1) = _ from h.symm)) fun h => ⟨g1, rfl, by have := F3.out.size; omega⟩); have Y2 := Lib.hid y2; clear hown hgrow hat hlt y2)
      obtain ⟨C1, s4, f4, hC4⟩ := Y2.out
      have S4 := Lib.hid s4
      have HD4 := Lib.hid (And.intro ((F1.out.mono fun _ _ h => h.elim).trans f4 fun _ _ h => h) (fun b hb => (hC4 b hb).imp id fun h => Nat.le_trans F1.out.size h))
      have c0 := s4.c0
      have c2 := s4.c2
      rw [HCD.out] at c0
      by_cases hfl : D ≤ m + 1
      · have HFL := Lib.hid hfl
        have hfi : (D : Int) ≤ (m : Int) + 1 := by omega
        have hfd : decide (D ≤ m + 1) = true := decide_eq_true hfl
        have HPW := Lib.hid (fun W (f : Fr S0 _ W) => HPR.out W _ _ _ _ _ _ _ (S4.out.fr0 f))
        clear Y2 s4 f4 hC4 HPR
        generalize w4.setCell ⟨g, 2, none⟩ (.slice (some ⟨g1, 0, none⟩) (m + 1) cap1) = w5 at *
        go_wp2_with fail
        go_quiet (fail)
        go_wp2_with fail
        refine (HPW.out _ (Fr.drewN S0 w5 _)).mono ?_
        rintro e6 w6 ⟨rfl, ht⟩
        have HT : Hid (RTurn w w6 g C Y.press) := Lib.hid (RTurn.after (HD4.out.1.trans0 (Fr.drewN S0 w5 _)) HD4.out.2 ht)
        clear ht HPW
        go_wp2_with fail
        go_ret
        exact ⟨rfl, by first | exact HT.out | (rw [if_pos HFL.out]; exact HT.out)⟩
      · have HFL := Lib.hid hfl
        have hfi : ¬ (D : Int) ≤ (m : Int) + 1 := by omega
        have hfd : decide (D ≤ m + 1) = false := decide_eq_false hfl
        clear Y2 s4 f4 hC4 HPR
        generalize w4.setCell ⟨g, 2, none⟩ (.slice (some ⟨g1, 0, none⟩) (m + 1) cap1) = w5 at *
        have HT : Hid (∀ W, Fr S0 w5 W → RTurn w W g C Y) := Lib.hid fun W f => ⟨C1, ⟨_, _, _, _, _, _, S4.out.fr0 f⟩, HD4.out.1.trans0 f, HD4.out.2⟩
        go_wp2_with fail
        go_quiet (fail)
        go_wp2_with fail
        go_ret
        exact ⟨rfl, by first | exact HT.out _ (Fr.drewN S0 w5 _) | (rw [if_neg HFL.out]; exact HT.out _ (Fr.drewN S0 w5 _))⟩
end
end Go.Proofs.YtmieeoceckcnkaaGreat
