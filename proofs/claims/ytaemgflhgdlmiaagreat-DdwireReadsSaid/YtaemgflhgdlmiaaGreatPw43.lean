/- DwLawSpoilt -/
import Derived.Test.YtaemgflhgdlmiaaGreatPw1
import Derived.Test.YtaemgflhgdlmiaaGreatPw2
import Derived.Test.YtaemgflhgdlmiaaGreatPw3
import Derived.Test.YtaemgflhgdlmiaaGreatPw4
import Derived.Test.YtaemgflhgdlmiaaGreatPw5
import Derived.Test.YtaemgflhgdlmiaaGreatPw6
import Derived.Test.YtaemgflhgdlmiaaGreatPw7
import Derived.Test.YtaemgflhgdlmiaaGreatPw8
import Derived.Test.YtaemgflhgdlmiaaGreatPw9
import Derived.Test.YtaemgflhgdlmiaaGreatPw10
import Derived.Test.YtaemgflhgdlmiaaGreatPw11
import Derived.Test.YtaemgflhgdlmiaaGreatPw12
import Derived.Test.YtaemgflhgdlmiaaGreatPw13
import Derived.Test.YtaemgflhgdlmiaaGreatPw14
import Derived.Test.YtaemgflhgdlmiaaGreatPw15
import Derived.Test.YtaemgflhgdlmiaaGreatPw16
import Derived.Test.YtaemgflhgdlmiaaGreatPw17
import Derived.Test.YtaemgflhgdlmiaaGreatPw18
import Derived.Test.YtaemgflhgdlmiaaGreatPw19
import Derived.Test.YtaemgflhgdlmiaaGreatPw20
import Derived.Test.YtaemgflhgdlmiaaGreatPw21
import Derived.Test.YtaemgflhgdlmiaaGreatPw22
import Derived.Test.YtaemgflhgdlmiaaGreatPw23
import Derived.Test.YtaemgflhgdlmiaaGreatPw24
import Derived.Test.YtaemgflhgdlmiaaGreatPw25
import Derived.Test.YtaemgflhgdlmiaaGreatPw26
import Derived.Test.YtaemgflhgdlmiaaGreatPw27
import Derived.Test.YtaemgflhgdlmiaaGreatPw28
import Derived.Test.YtaemgflhgdlmiaaGreatPw29
import Derived.Test.YtaemgflhgdlmiaaGreatPw30
import Derived.Test.YtaemgflhgdlmiaaGreatPw31
import Derived.Test.YtaemgflhgdlmiaaGreatPw32
import Derived.Test.YtaemgflhgdlmiaaGreatPw33
import Derived.Test.YtaemgflhgdlmiaaGreatPw34
import Derived.Test.YtaemgflhgdlmiaaGreatPw35
import Derived.Test.YtaemgflhgdlmiaaGreatPw36
import Derived.Test.YtaemgflhgdlmiaaGreatPw37
import Derived.Test.YtaemgflhgdlmiaaGreatPw39
import Derived.Defers
import Derived.Recover
import Derived.Deep.RegionHeld2
import Derived.StillTailTactics
import Derived.WalkKit
import Derived.Laws.BitsAllLaws
import Derived.Laws.BytesArg
import Derived.Lib.SlBytesConst
import Derived.Maps.AppendAt
import Derived.Laws.AppendOwnNone
import Derived.WalkSpells
import Derived.WalkLawsBesides
import Derived.Deep.QuietTactic
import Derived.BigQuiet
import Derived.RegionTactic
import Derived.Deep.AppendLies
import Derived.Deep.RegionLaw
import Derived.Laws.ResultCell
import Derived.Laws.EntriesVeiled
import Derived.Lib.Hide
import Derived.Test.YtaemgflhgdlmiaaGreatRows
import Derived.Deep.RegionHeld3
import Derived.Lib.SliceRun
import Derived.BigRegion
import Derived.Laws.Externs
import Derived.Shelf.Spec.BitsCarry
import Derived.Deep.CutBlock
import Derived.Deep.CutRange
import Derived.Deep.DeepCutAuto
import Derived.Lib.BitFns
import Derived.Shelf.Small.Bits
import Derived.Shelf.Strconv.Itoa0
import Derived.Shelf.Bits.Mul64
import Derived.Lib.AppendZeros
import Derived.Laws.CopyOwn
import Derived.Lib.Overlaps
import Derived.Lib.AppendZerosOnto
import Derived.Laws.OwnMore
import Derived.Shelf.SlSortCmp.WholeK
set_option maxRecDepth 100000
set_option maxHeartbeats 8000000
namespace Go.Proofs.YtaemgflhgdlmiaaGreat
open Go.RowKit
theorem enc7_pos (n : Nat) : 1 ≤ (enc 7 n).length := by
  rw [enc_7]
  unfold vEnc
  split <;> simp
theorem ddB_pos (A m : Nat) (L : List Pr) (f : Nat) : 1 ≤ (ddB A m L f).length := by
  have := enc7_pos A
  rw [ddB, List.length_append]
  omega
theorem both_bytes {w W : World} {g h s d A m : Nat} {a : List Pr} (b : Both w W g h s d A m a) (hm : m ≤ 21) : ∃ P, ddB A m (cutN a m) (cutA a m) = P ∧ DdOk A m (cutN a m) (cutA a m) ∧ 1 ≤ P.length ∧ P.length ≤ 460 ∧ ∀ x ∈ P, x < 256 := by
  have k := b.sk.is
  have hd := DdOk.of k.ok k.m2 k.m3 k.a1 k.a2 k.ks
  refine ⟨_, rfl, hd, ddB_pos _ _ _ _, ?_, ddB_lt _ _ _ _⟩
  have h1 := ddB_len A m (cutN a m) (cutA a m)
  have h2 := hd.ld.len
  omega
section
variable (a m : Nat) (p : Option Addr) (n1 c : Nat) (vs : List Int) (at0 : Int) (bt : Nat) (cut : Int) (q : Option Addr) (k c2 : Nat) (bs : List Nat) (w : World)
end
end Go.Proofs.YtaemgflhgdlmiaaGreat
