/- DgAlive -/
import Derived.Test.YtmieeoceckcnkaaPn1
import Derived.Test.YtmieeoceckcnkaaPn2
import Derived.Test.YtmieeoceckcnkaaPn4
import Derived.Test.YtmieeoceckcnkaaPn5
import Derived.Test.YtmieeoceckcnkaaPn6
import Derived.Test.YtmieeoceckcnkaaPn7
import Derived.Test.YtmieeoceckcnkaaPn8
import Derived.Test.YtmieeoceckcnkaaPn9
import Derived.BigQuiet
import Derived.Lib.AppendZerosOnto
import Derived.Lib.SliceRun
import Derived.Lib.Walk
import Derived.StillTailTactics
import Derived.Deep.RegionLaw
import Derived.Deep.RegionHeld3
import Derived.BigRegion
import Derived.Maps.AppendAt
import Derived.Laws.AppendOwnNone
import Derived.Laws.OwnMore
import Derived.Laws.Externs
import Derived.Shelf.Spec.BitsCarry
import Derived.Deep.CutBlock
import Derived.Deep.CutRange
import Derived.Deep.DeepCutAuto
import Derived.Lib.BitFns
import Derived.Shelf.Small.Bits
import Derived.Shelf.Strconv.Itoa0
import Derived.Shelf.Bits.Mul64
import Derived.Test.YtmieeoceckcnkaaRows
import Derived.WalkKit
import Derived.WalkSpells
import Derived.WalkLawsBesides
import Derived.Deep.QuietTactic
import Derived.RegionTactic
import Derived.Deep.AppendLies
import Derived.Laws.ResultCell
import Derived.Laws.EntriesVeiled
import Derived.Lib.Hide
import Derived.Laws.BytesArg
import Derived.Lib.SlBytesConst
set_option maxRecDepth 100000
set_option maxHeartbeats 8000000
namespace Go.Proofs.Ytmieeoceckcnkaa
open Go.RowKit
structure NewD (w W : World) (g : Nat) (x : Dg) : Prop where
  ex : ∃ C, DIs W g C x ∧ ∀ b, C b → w.heap.size ≤ b
  fr : Fr S0 w W
section
variable {w W W' : World} {g : Nat} {x y : Dg}
theorem NewD.fr0 (k : NewD w W g x) (f : Fr S0 W W') : NewD w W' g x := let ⟨C, h1, h2⟩ := k.ex; ⟨⟨C, h1.fr0 f, h2⟩, k.fr.trans0 f⟩
theorem NewD.good (k : NewD w W g x) : x.Good := let ⟨_, ⟨_, _, _, _, _, _, s⟩, _⟩ := k.ex; s.good
theorem nd_new (d : Nat) (W : World) (h1 : 10 ≤ d) (h2 : d ≤ 1000) :
    Calls Try.prog 16 #[.int .i64 (d : Nat)] W fun e w' => ∃ g, e = .returned (.tuple #[.pointer (some ⟨g, 0, none⟩), .int .i64 0]) ∧ NewD W w' g (Dg.new d) :=
  (new_yes d W h1 h2).mono fun _ _ ⟨g, e, s, hg, f⟩ => ⟨g, e, ⟨_, ⟨_, _, _, _, _, _, s⟩, fun b hb => by rw [hb]; exact hg⟩, f⟩
theorem nd_total (k : NewD w W g x) : Calls Try.prog 12 #[.pointer (some ⟨g, 0, none⟩)] W fun e w' => e = .returned (.int .u64 (x.tot : Nat)) ∧ W = w' := by
  obtain ⟨C, ⟨p, n, c, q, m, e, s⟩, -⟩ := k.ex
  exact total_any g C p n c q m e x W s
end
section
variable {w W : World} {g : Nat}
theorem exn (W : World) : Calls Try.prog 16 #[.int .i64 10] W fun e w' => ∃ g, e = .returned (.tuple #[.pointer (some ⟨g, 0, none⟩), .int .i64 0]) ∧ NewD W w' g (Dg.new 10) := nd_new 10 W (by decide) (by decide)
end
end Go.Proofs.Ytmieeoceckcnkaa
