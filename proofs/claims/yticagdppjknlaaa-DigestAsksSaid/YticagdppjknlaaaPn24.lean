/- DgLawWeights -/
import Derived.Test.YticagdppjknlaaaPn1
import Derived.Test.YticagdppjknlaaaPn2
import Derived.Test.YticagdppjknlaaaPn3
import Derived.Test.YticagdppjknlaaaPn4
import Derived.Test.YticagdppjknlaaaPn5
import Derived.Test.YticagdppjknlaaaPn6
import Derived.Test.YticagdppjknlaaaPn7
import Derived.Test.YticagdppjknlaaaPn8
import Derived.Test.YticagdppjknlaaaPn9
import Derived.Test.YticagdppjknlaaaPn10
import Derived.Test.YticagdppjknlaaaPn11
import Derived.Test.YticagdppjknlaaaPn12
import Derived.Test.YticagdppjknlaaaPn13
import Derived.Test.YticagdppjknlaaaPn14
import Derived.Test.YticagdppjknlaaaPn15
import Derived.Test.YticagdppjknlaaaPn16
import Derived.Test.YticagdppjknlaaaPn17
import Derived.Test.YticagdppjknlaaaPn18
import Derived.Test.YticagdppjknlaaaPn19
import Derived.Test.YticagdppjknlaaaPn20
import Derived.Test.YticagdppjknlaaaPn21
import Derived.BigQuiet
import Derived.BigRegion
import Derived.Deep.RegionLaw
import Derived.Deep.RegionHeld3
import Derived.StillTailTactics
import Derived.Maps.AppendAt
import Derived.Laws.AppendOwnNone
import Derived.Laws.OwnMore
import Derived.Lib.AppendZerosOnto
import Derived.Lib.SliceRun
import Derived.Lib.Walk
import Derived.Laws.Externs
import Derived.Shelf.Spec.BitsCarry
import Derived.Deep.CutBlock
import Derived.Deep.CutRange
import Derived.Deep.DeepCutAuto
import Derived.Lib.BitFns
import Derived.Shelf.Small.Bits
import Derived.Shelf.Strconv.Itoa0
import Derived.Shelf.Bits.Mul64
import Derived.Test.YticagdppjknlaaaRows
import Derived.WalkKit
import Derived.WalkSpells
import Derived.WalkLawsBesides
import Derived.Deep.QuietTactic
import Derived.RegionTactic
import Derived.Deep.AppendLies
import Derived.Laws.ResultCell
import Derived.Laws.EntriesVeiled
import Derived.Lib.Hide
import Derived.Laws.BytesArg
import Derived.Lib.SlBytesConst
set_option maxRecDepth 100000
set_option maxHeartbeats 8000000
namespace Go.Proofs.Yticagdppjknlaaa
open Go.RowKit
theorem both_all {w W : World} {g r : Nat} {x y : Dg} (k : Both w W g r x y) (hN : y.all.length ≤ 500000000000) :
    Calls Try.prog 22 #[.pointer (some ⟨r, 0, none⟩)] W fun e w' => ∃ v, e = .returned v ∧ Acc 61 W w' v y.all.length y.all := by
  obtain ⟨C, R, -, ⟨p, n, c, q, m, e, s⟩, -⟩ := k.ex
  exact rall_any r R p n c q m e y W s hN
theorem acc_total {w W : World} {v : Value} {l : List Tm} {T : Nat} (a : Acc 61 w W v l.length l) (hT : wts l = T) (h : T < 18446744073709551616) :
    Calls Try.prog 21 #[v] W fun e w' => e = .returned (.int .u64 (T : Nat)) ∧ W = w' := by
  obtain ⟨pv, cv, rfl⟩ := slFormN a.own
  subst hT
  exact rtotal_any pv _ cv l W (Sl.ofOwns a.own) h
theorem Both.back {w0 w W : World} {g r : Nat} {x y : Dg} (bo : Both w W g r x y) (f : Fr S0 w0 w) : Both w0 W g r x y :=
  let ⟨C, R, x1, x2, x3, x4, x5⟩ := bo.ex
  ⟨⟨C, R, x1, x2, x3, fun b hb => Nat.le_trans f.size (x4 b hb), fun b hb => Nat.le_trans f.size (x5 b hb)⟩, f.trans0 bo.fr⟩
section
variable (d : Nat) (p : Option Addr) (n c : Nat) (vs : List Int) (q : Option Addr) (k c2 : Nat) (ns : List Nat) (w : World)
end
end Go.Proofs.Yticagdppjknlaaa
