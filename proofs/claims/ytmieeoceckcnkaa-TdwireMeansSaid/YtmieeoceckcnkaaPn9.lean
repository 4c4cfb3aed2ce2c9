/- DgNew -/
import Derived.Test.YtmieeoceckcnkaaPn1
import Derived.Test.YtmieeoceckcnkaaPn2
import Derived.Test.YtmieeoceckcnkaaPn4
import Derived.Test.YtmieeoceckcnkaaPn5
import Derived.Test.YtmieeoceckcnkaaPn6
import Derived.Test.YtmieeoceckcnkaaPn7
import Derived.Test.YtmieeoceckcnkaaPn8
import Derived.BigQuiet
import Derived.Lib.AppendZerosOnto
import Derived.Lib.SliceRun
import Derived.Lib.Walk
import Derived.StillTailTactics
import Derived.Deep.RegionLaw
import Derived.Deep.RegionHeld3
import Derived.BigRegion
import Derived.Maps.AppendAt
import Derived.Laws.AppendOwnNone
import Derived.Laws.OwnMore
import Derived.Laws.Externs
import Derived.Shelf.Spec.BitsCarry
import Derived.Deep.CutBlock
import Derived.Deep.CutRange
import Derived.Deep.DeepCutAuto
import Derived.Lib.BitFns
import Derived.Shelf.Small.Bits
import Derived.Shelf.Strconv.Itoa0
import Derived.Shelf.Bits.Mul64
import Derived.Test.YtmieeoceckcnkaaRows
import Derived.WalkKit
import Derived.WalkSpells
import Derived.WalkLawsBesides
import Derived.Deep.QuietTactic
import Derived.RegionTactic
import Derived.Deep.AppendLies
import Derived.Laws.ResultCell
import Derived.Laws.EntriesVeiled
import Derived.Lib.Hide
import Derived.Laws.BytesArg
import Derived.Lib.SlBytesConst
set_option maxRecDepth 100000
set_option maxHeartbeats 8000000
namespace Go.Proofs.Ytmieeoceckcnkaa
open Go.RowKit
def Dg.new (d : Nat) : Dg := { d := d, L := [], W := [], lo := 0, hi := 0 }
theorem Dg.Good.new {d : Nat} (h1 : 10 ≤ d) (h2 : d ≤ 1000) : (Dg.new d).Good :=
  ⟨h1, h2, List.Pairwise.nil, fun t ht => (by cases ht), (by show (-9223372036854775808 : Int) ≤ 0; decide), (by show (0 : Int) ≤ 9223372036854775807; decide), (by show (-9223372036854775808 : Int) ≤ 0; decide), (by show (0 : Int) ≤ 9223372036854775807; decide), (by show (0 : Nat) ≤ 281474976710656; decide), fun _ => ⟨rfl, rfl⟩⟩
theorem new_no (d : Int) (w : World) (h : d < 10 ∨ 1000 < d) :
    Calls Try.prog 16 #[.int .i64 d] w fun e w' => e = .returned (.tuple #[.pointer none, .int .i64 1]) ∧ Fr S0 w w' := by
  by_cases h1 : d < 10
  · go_enter Try.func16, Try.ntmps16
    go_wp2_with fail
    go_ret2
    exact ⟨rfl, Fr.refl _ _⟩
  · have h2 : 1000 < d := by omega
    go_enter Try.func16, Try.ntmps16
    go_wp2_with fail
    go_ret2
    exact ⟨rfl, Fr.refl _ _⟩
theorem new_yes (d : Nat) (w : World) (h1 : 10 ≤ d) (h2 : d ≤ 1000) :
    Calls Try.prog 16 #[.int .i64 (d : Nat)] w fun e w' => ∃ g, e = .returned (.tuple #[.pointer (some ⟨g, 0, none⟩), .int .i64 0]) ∧ DgIs w' g (fun b => b = g) none 0 0 none 0 0 (Dg.new d) ∧ w.heap.size ≤ g ∧ Fr S0 w w' := by
  have i1 : ¬ (d : Int) < 10 := by omega
  have i2 : ¬ 1000 < (d : Int) := by omega
  have e1 : decide ((d : Int) < 10) = false := decide_eq_false i1
  have e2 : decide (1000 < (d : Int)) = false := decide_eq_false i2
  have HG := Lib.hid (Dg.Good.new h1 h2)
  clear h1 h2
  go_enter Try.func16, Try.ntmps16
  go_wp2_with fail
  go_ret2
  refine ⟨_, rfl, ⟨heap_alloc_new _ _, World.ownsRow_nil _ _ _ _, World.ownsRow_nil _ _ _ _, fun y hy => by simp [Value.ownBlock] at hy, fun y hy => by simp [Value.ownBlock] at hy, rfl, fun b hb => ?_, HG.out⟩, Nat.le_refl _, Fr.alloc _ _ _⟩
  rw [hb, size_alloc]
  omega
section
variable (g : Nat) (C : Nat → Prop) (p : Option Addr) (n c : Nat) (q : Option Addr) (m e : Nat) (x : Dg) (w : World)
theorem fineness_any (s : DgIs w g C p n c q m e x) : Calls Try.prog 9 #[.pointer (some ⟨g, 0, none⟩)] w fun e w' => e = .returned (.int .i64 (x.d : Nat)) ∧ w = w' := by
  have c0 := s.c0
  go_enter Try.func9, Try.ntmps9
  go_wp2_with fail
  go_ret
  exact ⟨rfl, rfl⟩
theorem total_any (s : DgIs w g C p n c q m e x) : Calls Try.prog 12 #[.pointer (some ⟨g, 0, none⟩)] w fun e w' => e = .returned (.int .u64 (x.tot : Nat)) ∧ w = w' := by
  have c5 := s.c5
  go_enter Try.func12, Try.ntmps12
  go_wp2_with fail
  go_ret
  exact ⟨rfl, rfl⟩
def Dg.endE (x : Dg) : Nat := if x.tot = 0 then 8 else 0
theorem ends_any (s : DgIs w g C p n c q m e x) : Calls Try.prog 8 #[.pointer (some ⟨g, 0, none⟩)] w fun e w' => e = .returned (.tuple #[.int .i64 x.lo, .int .i64 x.hi, .int .i64 (x.endE : Nat)]) ∧ Fr S0 w w' := by
  have c3 := s.c3
  have c4 := s.c4
  have c5 := s.c5
  unfold Dg.endE
  by_cases h : x.tot = 0
  · obtain ⟨e1, e2⟩ := s.good.emp (s.good.allNil.2 h)
    rw [if_pos h, e1, e2]
    rw [h] at c5
    replace c5 : w.cell? ⟨g, 5, none⟩ = some (.int .u64 0) := c5
    clear s h e1 e2 c3 c4
    go_enter Try.func8, Try.ntmps8
    go_wp2_with fail
    go_ret3
    exact ⟨rfl, Fr.refl _ _⟩
  · rw [if_neg h]
    have h0 : ((x.tot : Int) == 0) = false := by rw [beq_eq_false_iff_ne]; omega
    clear s h
    go_enter Try.func8, Try.ntmps8
    go_wp2_with fail
    first | go_ret3 | (go_quiet (fail); go_wp2_with fail; go_ret3)
    first | exact ⟨rfl, Fr.refl _ _⟩ | exact ⟨rfl, Fr.drewN _ _ _⟩
theorem list_any (s : DgIs w g C p n c q m e x) (hN : x.all.length ≤ 500000000000) : Calls Try.prog 10 #[.pointer (some ⟨g, 0, none⟩)] w fun e w' => ∃ v, e = .returned v ∧ Acc 44 w w' v x.L.length x.L := by
  have hl := s.slL.len
  have HT := Lib.hid (told_any p n c x.L w s.slL (by have : x.L.length ≤ x.all.length := by { unfold Dg.all; rw [List.length_append]; omega }; omega))
  have c1 := s.c1
  rw [hl]
  clear s hl hN
  go_enter Try.func10, Try.ntmps10
  go_wp2_with fail
  refine HT.out.mono ?_
  rintro e1 w1 ⟨v, rfl, a⟩
  have HA := Lib.hid a
  clear a
  go_wp2_with fail
  go_ret
  exact ⟨_, rfl, HA.out⟩
theorem waits_any (s : DgIs w g C p n c q m e x) (hN : x.all.length ≤ 500000000000) : Calls Try.prog 11 #[.pointer (some ⟨g, 0, none⟩)] w fun e w' => ∃ v, e = .returned v ∧ Acc 44 w w' v x.W.length x.W := by
  have hl := s.slW.len
  have HT := Lib.hid (told_any q m e x.W w s.slW (by have : x.W.length ≤ x.all.length := by { unfold Dg.all; rw [List.length_append]; omega }; omega))
  have c2 := s.c2
  rw [hl]
  clear s hl hN
  go_enter Try.func11, Try.ntmps11
  go_wp2_with fail
  refine HT.out.mono ?_
  rintro e1 w1 ⟨v, rfl, a⟩
  have HA := Lib.hid a
  clear a
  go_wp2_with fail
  go_ret
  exact ⟨_, rfl, HA.out⟩
end
end Go.Proofs.Ytmieeoceckcnkaa
