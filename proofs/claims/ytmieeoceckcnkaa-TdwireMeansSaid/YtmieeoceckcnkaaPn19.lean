/- DgSm -/
import Derived.Test.YtmieeoceckcnkaaPn1
import Derived.Test.YtmieeoceckcnkaaPn2
import Derived.Test.YtmieeoceckcnkaaPn4
import Derived.Test.YtmieeoceckcnkaaPn5
import Derived.Test.YtmieeoceckcnkaaPn6
import Derived.Test.YtmieeoceckcnkaaPn7
import Derived.Test.YtmieeoceckcnkaaPn8
import Derived.Test.YtmieeoceckcnkaaPn9
import Derived.Test.YtmieeoceckcnkaaPn10
import Derived.Test.YtmieeoceckcnkaaPn12
import Derived.Test.YtmieeoceckcnkaaPn15
import Derived.Test.YtmieeoceckcnkaaPn16
import Derived.Test.YtmieeoceckcnkaaPn17
import Derived.Test.YtmieeoceckcnkaaPn18
import Derived.Laws.Externs
import Derived.Shelf.Spec.BitsCarry
import Derived.Deep.CutBlock
import Derived.Deep.CutRange
import Derived.Deep.DeepCutAuto
import Derived.Lib.BitFns
import Derived.Shelf.Small.Bits
import Derived.Shelf.Strconv.Itoa0
import Derived.Shelf.Bits.Mul64
import Derived.Test.YtmieeoceckcnkaaRows
import Derived.WalkKit
import Derived.WalkSpells
import Derived.WalkLawsBesides
import Derived.Deep.QuietTactic
import Derived.BigQuiet
import Derived.RegionTactic
import Derived.Deep.AppendLies
import Derived.Deep.RegionLaw
import Derived.Laws.ResultCell
import Derived.Laws.EntriesVeiled
import Derived.Lib.Hide
import Derived.Laws.BytesArg
import Derived.Lib.SlBytesConst
import Derived.Maps.AppendAt
import Derived.Laws.AppendOwnNone
import Derived.Lib.AppendZerosOnto
import Derived.Lib.SliceRun
import Derived.Lib.Walk
import Derived.StillTailTactics
import Derived.Deep.RegionHeld3
import Derived.BigRegion
import Derived.Laws.OwnMore
set_option maxRecDepth 100000
set_option maxHeartbeats 8000000
namespace Go.Proofs.Ytmieeoceckcnkaa
open Go.RowKit
structure Sm (x : Dg) : Prop where
  d : x.d ≤ 70
  L : x.L.length ≤ 500000000
  W : x.W.length < x.d
theorem Sm.all {x : Dg} (h : Sm x) : x.all.length ≤ 500000070 := by
  have := h.d
  have := h.L
  have := h.W
  unfold Dg.all
  rw [List.length_append]
  omega
theorem sm_press {x : Dg} (g : x.Good) (h : x.d ≤ 70) : Sm x.press := by
  refine ⟨h, press_short x.d g.l1 x.all g.fit h g.tot, ?_⟩
  show 0 < x.d
  have := g.d1
  omega
theorem Sm.add {x : Dg} (h : Sm x) (g : x.Good) (v : Int) (u : Nat) (h1 : -9223372036854775808 ≤ v) (h2 : v ≤ 9223372036854775807) : Sm (x.add v u) := by
  unfold Dg.add
  split
  · rename_i hr
    have hg := Dg.come_good g hr h1 h2
    unfold Dg.full
    split
    · exact sm_press hg h.d
    · rename_i h9
      exact ⟨h.d, h.L, Nat.lt_of_not_le h9⟩
  · exact h
theorem take_good {x y : Dg} (g : x.Good) (k : y.Good) (h : ¬ (y.d ≠ x.d ∨ y.tot = 0 ∨ 281474976710656 < x.tot + y.tot)) : (x.come y.all y.lo y.hi).Good := by
  refine g.come (l := y.all) (lo := y.lo) (hi := y.hi) k.fit (fun e => h (.inr (.inl (k.allNil.1 e)))) k.l1 k.l2 k.h1 k.h2 ?_
  rw [show wts y.all = y.tot from rfl]
  omega
theorem Sm.take {x y : Dg} (h : Sm x) (g : x.Good) (k : y.Good) : Sm (x.take y) := by
  unfold Dg.take
  split
  · exact h
  · rename_i h9
    exact sm_press (take_good g k h9) h.d
end Go.Proofs.Ytmieeoceckcnkaa
