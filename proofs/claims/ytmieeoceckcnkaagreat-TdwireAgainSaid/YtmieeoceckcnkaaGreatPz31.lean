/- DgPlays -/
import Derived.Test.YtmieeoceckcnkaaGreatPz1
import Derived.Test.YtmieeoceckcnkaaGreatPz2
import Derived.Test.YtmieeoceckcnkaaGreatPz3
import Derived.Test.YtmieeoceckcnkaaGreatPz4
import Derived.Test.YtmieeoceckcnkaaGreatPz5
import Derived.Test.YtmieeoceckcnkaaGreatPz6
import Derived.Test.YtmieeoceckcnkaaGreatPz7
import Derived.Test.YtmieeoceckcnkaaGreatPz8
import Derived.Test.YtmieeoceckcnkaaGreatPz9
import Derived.Test.YtmieeoceckcnkaaGreatPz10
import Derived.Test.YtmieeoceckcnkaaGreatPz11
import Derived.Test.YtmieeoceckcnkaaGreatPz12
import Derived.Test.YtmieeoceckcnkaaGreatPz13
import Derived.Test.YtmieeoceckcnkaaGreatPz14
import Derived.Test.YtmieeoceckcnkaaGreatPz15
import Derived.Test.YtmieeoceckcnkaaGreatPz16
import Derived.Test.YtmieeoceckcnkaaGreatPz21
import Derived.Test.YtmieeoceckcnkaaGreatPz24
import Derived.Test.YtmieeoceckcnkaaGreatPz28
import Derived.Test.YtmieeoceckcnkaaGreatPz29
import Derived.Test.YtmieeoceckcnkaaGreatPz30
import Derived.BigQuiet
import Derived.Lib.AppendZerosOnto
import Derived.Lib.SliceRun
import Derived.Lib.Walk
import Derived.StillTailTactics
import Derived.Deep.RegionLaw
import Derived.Deep.RegionHeld3
import Derived.BigRegion
import Derived.Maps.AppendAt
import Derived.Laws.AppendOwnNone
import Derived.Laws.OwnMore
import Derived.Laws.Externs
import Derived.Shelf.Spec.BitsCarry
import Derived.Deep.CutBlock
import Derived.Deep.CutRange
import Derived.Deep.DeepCutAuto
import Derived.Lib.BitFns
import Derived.Shelf.Small.Bits
import Derived.Shelf.Strconv.Itoa0
import Derived.Shelf.Bits.Mul64
import Derived.Test.YtmieeoceckcnkaaGreatRows
import Derived.WalkKit
import Derived.WalkSpells
import Derived.WalkLawsBesides
import Derived.Deep.QuietTactic
import Derived.RegionTactic
import Derived.Deep.AppendLies
import Derived.Laws.ResultCell
import Derived.Laws.EntriesVeiled
import Derived.Lib.Hide
import Derived.Laws.BytesArg
import Derived.Lib.SlBytesConst
set_option maxRecDepth 100000
set_option maxHeartbeats 8000000
namespace Go.Proofs.YtmieeoceckcnkaaGreat
open Go.RowKit
structure St (D : Nat) (x : Dg) : Prop where
  sm : Sm x
  d : x.d = D
theorem take_dd (x y : Dg) : (x.take y).d = x.d := by
  unfold Dg.take
  split <;> rfl
theorem add_dd (x : Dg) (v : Int) (u : Nat) : (x.add v u).d = x.d := by
  unfold Dg.add
  split
  · unfold Dg.full
    split <;> rfl
  · rfl
section
variable {xo : Nat} {MO : Dg} {w W : World} {gs gw a b xA xB rA rB : Nat} {MA MB NA NB : Dg}
theorem Quad.goodA (q : Quad xo MO DIs w W gs gw a b xA xB rA rB MA MB NA NB) : MA.Good := let ⟨_, _, ⟨_, _, _, _, _, _, s⟩, _⟩ := q.codeA obD; s.good
theorem Quad.same (q : Quad xo MO DIs w W gs gw a b xA xB rA rB MA MB MA MB) (h : Sm MA) :
    Calls Tryz.prog 12 #[.pointer (some ⟨xA, 0, none⟩), .pointer (some ⟨rA, 0, none⟩)] W fun e w' => e = .returned (.bool true) ∧ Fr S0 W w' := by
  obtain ⟨C, -, h1, -⟩ := q.codeA obD
  obtain ⟨D, -, h2, -⟩ := q.refA obD
  exact same_any xA rA C D MA W h1 h2 (by have := h.all; omega)
theorem do_one {D : Nat} (q : Quad xo MO DIs w W gs gw a b xA xB rA rB MA MB MA MB) (kd : Nat) (who : Bool) (v : Int) (n : Nat) (hw : (who = false ∧ a = 0 ∧ b = 1) ∨ (who = true ∧ a = 1 ∧ b = 0)) (hA : St D MA) (hB : St D MB) (hv1 : -9223372036854775808 ≤ v) (hv2 : v ≤ 9223372036854775807) :
    Calls Tryz.prog 16 #[.slice (some ⟨gs, 0, none⟩) 2 2, .slice (some ⟨gw, 0, none⟩) 2 2, .agg #[.int .u8 (kd : Nat), .bool who, .int .i64 v, .int .u64 (n : Nat)]] W fun e w' => e = .returned (.bool true) ∧ ∃ M', Quad xo MO DIs w w' gs gw a b xA xB rA rB M' MB M' MB ∧ St D M' := by
  have gA := q.goodA
  have gB := q.swap.goodA
  have lA := hA.sm.all
  have lB := hB.sm.all
  by_cases h5 : kd % 8 = 5
  · exact (do_take w W gs gw a b xA xB rA rB MA MB q kd who v n hw h5 (by omega)).mono fun e w' h => ⟨h.1, _, h.2, hA.sm.take gA gB, (take_dd _ _).trans hA.d⟩
  · by_cases h6 : kd % 8 = 6
    · exact (do_self w W gs gw a b xA xB rA rB MA MB q kd who v n hw h6 (by omega)).mono fun e w' h => ⟨h.1, _, h.2, hA.sm.take gA gA, (take_dd _ _).trans hA.d⟩
    · by_cases h7 : kd % 8 = 7
      · exact (do_press w W gs gw a b xA xB rA rB MA MB q kd who v n hw h7 (by omega)).mono fun e w' h => ⟨h.1, _, h.2, sm_press gA hA.sm.d, hA.d⟩
      · exact (do_add w W gs gw a b xA xB rA rB MA MB q kd who v n hw ⟨h5, h6, h7⟩ (by omega) hv1 hv2).mono fun e w' h => ⟨h.1, _, h.2, hA.sm.add gA v n hv1 hv2, (add_dd _ _ _).trans hA.d⟩
theorem do_any {D : Nat} (q : Quad xo MO DIs w W gs gw 0 1 xA xB rA rB MA MB MA MB) (kd : Nat) (who : Bool) (v : Int) (n : Nat) (hA : St D MA) (hB : St D MB) (hv1 : -9223372036854775808 ≤ v) (hv2 : v ≤ 9223372036854775807) :
    Calls Tryz.prog 16 #[.slice (some ⟨gs, 0, none⟩) 2 2, .slice (some ⟨gw, 0, none⟩) 2 2, .agg #[.int .u8 (kd : Nat), .bool who, .int .i64 v, .int .u64 (n : Nat)]] W fun e w' => e = .returned (.bool true) ∧ ∃ MA' MB', Quad xo MO DIs w w' gs gw 0 1 xA xB rA rB MA' MB' MA' MB' ∧ St D MA' ∧ St D MB' := by
  cases who with
  | false => exact (do_one q kd false v n (.inl ⟨rfl, rfl, rfl⟩) hA hB hv1 hv2).mono fun e w' h => ⟨h.1, let ⟨M, h2, h3⟩ := h.2; ⟨M, MB, h2, h3, hB⟩⟩
  | true => exact (do_one q.swap kd true v n (.inr ⟨rfl, rfl, rfl⟩) hB hA hv1 hv2).mono fun e w' h => ⟨h.1, let ⟨M, h2, h3⟩ := h.2; ⟨MA, M, h2.swap, hA, h3⟩⟩
end
end Go.Proofs.YtmieeoceckcnkaaGreat
