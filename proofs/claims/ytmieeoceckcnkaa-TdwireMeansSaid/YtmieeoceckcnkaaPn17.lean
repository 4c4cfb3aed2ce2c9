/- RgDg, RgAdd -/
import Derived.Test.YtmieeoceckcnkaaPn1
import Derived.Test.YtmieeoceckcnkaaPn2
import Derived.Test.YtmieeoceckcnkaaPn4
import Derived.Test.YtmieeoceckcnkaaPn5
import Derived.Test.YtmieeoceckcnkaaPn6
import Derived.Test.YtmieeoceckcnkaaPn7
import Derived.Test.YtmieeoceckcnkaaPn8
import Derived.Test.YtmieeoceckcnkaaPn15
import Derived.Test.YtmieeoceckcnkaaPn16
import Derived.BigRegion
import Derived.BigQuiet
import Derived.Deep.RegionHeld3
import Derived.Lib.AppendZerosOnto
import Derived.Lib.SliceRun
import Derived.Lib.Walk
import Derived.StillTailTactics
import Derived.Deep.RegionLaw
import Derived.Maps.AppendAt
import Derived.Laws.AppendOwnNone
import Derived.Laws.OwnMore
import Derived.Laws.Externs
import Derived.Shelf.Spec.BitsCarry
import Derived.Deep.CutBlock
import Derived.Deep.CutRange
import Derived.Deep.DeepCutAuto
import Derived.Lib.BitFns
import Derived.Shelf.Small.Bits
import Derived.Shelf.Strconv.Itoa0
import Derived.Shelf.Bits.Mul64
import Derived.Test.YtmieeoceckcnkaaRows
import Derived.WalkKit
import Derived.WalkSpells
import Derived.WalkLawsBesides
import Derived.Deep.QuietTactic
import Derived.RegionTactic
import Derived.Deep.AppendLies
import Derived.Laws.ResultCell
import Derived.Laws.EntriesVeiled
import Derived.Lib.Hide
import Derived.Laws.BytesArg
import Derived.Lib.SlBytesConst
set_option maxRecDepth 100000
set_option maxHeartbeats 8000000
namespace Go.Proofs.Ytmieeoceckcnkaa
open Go.RowKit
structure RgIs (w : World) (g : Nat) (C : Nat → Prop) (p : Option Addr) (n c : Nat) (q : Option Addr) (m e : Nat) (x : Dg) : Prop where
  blk : w.heap[g]? = some (.cells #[.int .i64 (x.d : Nat), .slice p n c, .slice q m e, .int .i64 x.lo, .int .i64 x.hi] 38 (0, 0))
  list : w.ownsRow 0 44 2 (.slice p n c) n (prs x.L)
  wait : w.ownsRow 0 44 2 (.slice q m e) m (prs x.W)
  apart : ∀ k, Value.ownBlock (.slice p n c) = some k → k ≠ g ∧ C k ∧ Value.ownBlock (.slice q m e) ≠ some k
  other : ∀ k, Value.ownBlock (.slice q m e) = some k → k ≠ g ∧ C k
  self : C g
  below : ∀ b, C b → b < w.heap.size
  good : x.Good
section
variable {S C : Nat → Prop} {w w' : World} {g n c m e : Nat} {p q : Option Addr} {x : Dg}
theorem RgIs.fr (s : RgIs w g C p n c q m e x) (f : Fr S w w') (ho : ∀ b, C b → ¬ S b) : RgIs w' g C p n c q m e x :=
  ⟨f.row s.blk (ho g s.self), f.owns s.list fun k hk => ho k (s.apart k hk).2.1, f.owns s.wait fun k hk => ho k (s.other k hk).2, s.apart, s.other, s.self, fun b hb => Nat.lt_of_lt_of_le (s.below b hb) f.size, s.good⟩
theorem RgIs.fr0 (s : RgIs w g C p n c q m e x) (f : Fr S0 w w') : RgIs w' g C p n c q m e x := s.fr f fun _ _ h => h
theorem RgIs.c0 (s : RgIs w g C p n c q m e x) : w.cell? ⟨g, 0, none⟩ = some (.int .i64 (x.d : Nat)) := by simp [World.cell?, s.blk]
theorem RgIs.c1 (s : RgIs w g C p n c q m e x) : w.cell? ⟨g, 1, none⟩ = some (.slice p n c) := by simp [World.cell?, s.blk]
theorem RgIs.c2 (s : RgIs w g C p n c q m e x) : w.cell? ⟨g, 2, none⟩ = some (.slice q m e) := by simp [World.cell?, s.blk]
theorem RgIs.c3 (s : RgIs w g C p n c q m e x) : w.cell? ⟨g, 3, none⟩ = some (.int .i64 x.lo) := by simp [World.cell?, s.blk]
theorem RgIs.c4 (s : RgIs w g C p n c q m e x) : w.cell? ⟨g, 4, none⟩ = some (.int .i64 x.hi) := by simp [World.cell?, s.blk]
theorem RgIs.z (s : RgIs w g C p n c q m e x) (k : Nat) : w.frozen? ⟨g, k, none⟩ = false := by simp [World.frozen?, s.blk]
theorem RgIs.slL (s : RgIs w g C p n c q m e x) : Sl w p n c x.L := Sl.ofOwns s.list
theorem RgIs.slW (s : RgIs w g C p n c q m e x) : Sl w q m e x.W := Sl.ofOwns s.wait
theorem RgIs.lt (s : RgIs w g C p n c q m e x) : g < w.heap.size := s.below g s.self
end
def RIs (w : World) (g : Nat) (C : Nat → Prop) (x : Dg) : Prop := ∃ p n c q m e, RgIs w g C p n c q m e x
theorem RIs.fr {S C : Nat → Prop} {w w' : World} {g : Nat} {x : Dg} (s : RIs w g C x) (f : Fr S w w') (ho : ∀ b, C b → ¬ S b) : RIs w' g C x := let ⟨p, n, c, q, m, e, s⟩ := s; ⟨p, n, c, q, m, e, s.fr f ho⟩
theorem RIs.fr0 {C : Nat → Prop} {w w' : World} {g : Nat} {x : Dg} (s : RIs w g C x) (f : Fr S0 w w') : RIs w' g C x := s.fr f fun _ _ h => h
def RTurn (w w' : World) (g : Nat) (C : Nat → Prop) (x : Dg) : Prop := ∃ C', RIs w' g C' x ∧ Fr C w w' ∧ ∀ b, C' b → C b ∨ w.heap.size ≤ b
theorem RTurn.same {w w' : World} {g : Nat} {C : Nat → Prop} {x : Dg} (s : RIs w g C x) (f : Fr S0 w w') : RTurn w w' g C x := ⟨C, s.fr0 f, f.mono fun _ _ h => h.elim, fun _ h => .inl h⟩
theorem five_set {w : World} {g : Nat} {a b c d e : Value} {t : TypeId} (h : w.heap[g]? = some (.cells #[a, b, c, d, e] t (0, 0))) (x y : Value) :
    (w.setCell ⟨g, 1, none⟩ x).heap[g]? = some (.cells #[a, x, c, d, e] t (0, 0)) ∧ (w.setCell ⟨g, 2, none⟩ x).heap[g]? = some (.cells #[a, b, x, d, e] t (0, 0)) ∧
    (w.setCell ⟨g, 3, none⟩ x).heap[g]? = some (.cells #[a, b, c, x, e] t (0, 0)) ∧ (w.setCell ⟨g, 4, none⟩ y).heap[g]? = some (.cells #[a, b, c, d, y] t (0, 0)) := by
  refine ⟨?_, ?_, ?_, ?_⟩ <;> (rw [heap_setCell_same w g _ _ _ _ h]; rfl)
section
variable (g : Nat) (C : Nat → Prop) (p : Option Addr) (n c : Nat) (q : Option Addr) (m e : Nat) (x : Dg) (w : World)
theorem rall_any (s : RgIs w g C p n c q m e x) (hN : x.all.length ≤ 500000000000) :
    Calls Try.prog 25 #[.pointer (some ⟨g, 0, none⟩)] w fun e w' => ∃ v, e = .returned v ∧ Acc 44 w w' v x.all.length x.all := by
  have hLl := s.slL.len
  have hWl := s.slW.len
  have hall : x.all.length = n + m := by unfold Dg.all; rw [List.length_append, hLl, hWl]
  have HC := Lib.hid (fun W (f : Fr S0 w W) => And.intro (s.fr0 f).c2 (And.intro (s.fr0 f).slL (s.fr0 f).slW))
  have c1 := s.c1
  have HR1 : Hid (Room n) := Lib.hid (Room.mk (by omega))
  have HR2 : Hid (Room (n + m)) := Lib.hid (Room.mk (by omega))
  have HA0 : Hid (Acc 44 w w (.slice none 0 0) 0 []) := Lib.hid (Acc.nil (Fr.refl _ _))
  have HE : Hid (x.all = x.L ++ x.W ∧ x.all.length = n + m) := Lib.hid ⟨rfl, hall⟩
  clear s hLl hWl hall hN
  go_enter Try.func25, Try.ntmps25
  go_wp2_with (first
    | ((with_reducible show wpList _ _ _ (Oper.mk (some 9) _ _ _ _ _ :: _) _ _); refine app_two elAm (.tmp 4) (.tmp 8) HA0.out (HC.out w (Fr.refl _ _)).2.1 (Nat.zero_add _) HR1.out rfl rfl rfl rfl ?_; intro q5 d5 w5 ha5; have HA5 := Lib.hid ha5; obtain ⟨k2, -, -⟩ := HC.out w5 ha5.fr; clear ha5)
    | ((with_reducible show wpList _ _ _ (Oper.mk (some 15) _ _ _ _ _ :: _) _ _); refine app_two elAm (.tmp 10) (.tmp 14) HA5.out (HC.out _ HA5.out.fr).2.2 rfl HR2.out rfl rfl rfl rfl ?_; intro q6 d6 w6 ha6; have HA6 := Lib.hid ha6; clear ha6))
  go_ret
  refine ⟨_, rfl, ?_⟩
  rw [HE.out.2, HE.out.1]
  exact HA6.out
end
end Go.Proofs.Ytmieeoceckcnkaa

namespace Go.Proofs.Ytmieeoceckcnkaa
open Go.RowKit
theorem RgIs.came {g : Nat} {C : Nat → Prop} {p : Option Addr} {n c : Nat} {q : Option Addr} {m e : Nat} {x : Dg} {w w5 w6 : World} (s : RgIs w g C p n c q m e x) {l : List Tm} {lo hi : Int} (hg : (x.come l lo hi).Good) (f5 : Fr (· = g) w w5)
    (hb5 : w5.heap[g]? = some (.cells #[.int .i64 (x.d : Nat), .slice p n c, .slice q m e, .int .i64 (x.come l lo hi).lo, .int .i64 (x.come l lo hi).hi] 38 (0, 0)))
    {q' : Option Addr} {k e' : Nat} (hown : w6.ownsRow 0 44 2 (.slice q' k e') k (prs (x.W ++ l))) (hgr : w5.grownBy w6 (Value.ownBlock (.slice q m e)))
    (hat : Value.ownBlock (.slice q' k e') = Value.ownBlock (.slice q m e) ∨ ∃ y, Value.ownBlock (.slice q' k e') = some y ∧ w.heap.size ≤ y) :
    w6.cell? ⟨g, 2, none⟩ = some (.slice q m e) ∧ w6.frozen? ⟨g, 2, none⟩ = false ∧ ∃ C1, RgIs (w6.setCell ⟨g, 2, none⟩ (.slice q' k e')) g C1 p n c q' k e' (x.come l lo hi) ∧ Fr C w (w6.setCell ⟨g, 2, none⟩ (.slice q' k e')) ∧ ∀ b, C1 b → C b ∨ w.heap.size ≤ b := by
  have hgq : ∀ y, Value.ownBlock (.slice q m e) = some y → y ≠ g := fun y hy => (s.other y hy).1
  have hgm : g < w.heap.size := s.lt
  have hb6 := (Fr.grown hgr).row hb5 fun e => hgq g e rfl
  have fl : Fr (fun j => j = g ∨ Value.ownBlock (.slice q m e) = some j) w w6 := (f5.mono fun _ _ h => .inl h).trans (Fr.grown hgr) fun _ _ h => .inr h
  have hq' : ∀ y, Value.ownBlock (.slice q' k e') = some y → y ≠ g ∧ (Value.ownBlock (.slice q m e) = some y ∨ w.heap.size ≤ y) := by
    intro y hy
    rcases hat with h | ⟨z, h, hz⟩
    · rw [hy] at h
      exact ⟨hgq y h.symm, .inl h.symm⟩
    · rw [hy] at h
      obtain rfl := Option.some.inj h
      exact ⟨by omega, .inr hz⟩
  have fs : Fr (· = g) w6 (w6.setCell ⟨g, 2, none⟩ (.slice q' k e')) := Fr.setCell (· = g) _ _ _ rfl
  have hp : ∀ y, Value.ownBlock (.slice p n c) = some y → ¬ (y = g ∨ Value.ownBlock (.slice q m e) = some y) := fun y hy h => by
    rcases h with h | h
    · exact (s.apart y hy).1 h
    · exact (s.apart y hy).2.2 h
  refine ⟨by simp [World.cell?, hb6], by simp [World.frozen?, hb6], fun b => C b ∨ Value.ownBlock (.slice q' k e') = some b, ⟨(five_set hb6 (.slice q' k e') (.slice q' k e')).2.1, ?_, ?_, fun y hy => ⟨(s.apart y hy).1, .inl (s.apart y hy).2.1, fun h => ?_⟩, fun y hy => ⟨(hq' y hy).1, .inr hy⟩, .inl s.self, fun b hb => ?_, hg⟩, ?_, fun b hb => ?_⟩
  · exact fs.owns (fl.owns s.list hp) fun y hy e => (s.apart y hy).1 e
  · exact fs.owns hown fun y hy e => (hq' y hy).1 e
  · rcases (hq' y h).2 with h2 | h2
    · exact (s.apart y hy).2.2 h2
    · have := (s.list.lt y hy).2
      omega
  · rcases hb with hb | hb
    · exact Nat.lt_of_lt_of_le (s.below b hb) (Nat.le_trans fl.size fs.size)
    · exact Nat.lt_of_lt_of_le (hown.lt b hb).2 fs.size
  · refine (fl.mono fun j _ h => ?_).trans fs fun j _ h => ?_
    · rcases h with h | h
      · rw [h]; exact s.self
      · exact (s.other j h).2
    · have h2 : j = g := h
      rw [h2]; exact s.self
  · rcases hb with hb | hb
    · exact .inl hb
    · rcases (hq' b hb).2 with h2 | h2
      · exact .inl (s.other b h2).2
      · exact .inr h2
section
variable (g : Nat) (C : Nat → Prop) (p : Option Addr) (n c : Nat) (q : Option Addr) (m e : Nat) (x : Dg) (w : World)
end
end Go.Proofs.Ytmieeoceckcnkaa
