/- ReOf -/
import Derived.Test.YtaemgflhgdlmiaaGreatPw1
import Derived.Test.YtaemgflhgdlmiaaGreatPw2
import Derived.Test.YtaemgflhgdlmiaaGreatPw3
import Derived.Test.YtaemgflhgdlmiaaGreatPw4
import Derived.Test.YtaemgflhgdlmiaaGreatPw5
import Derived.Test.YtaemgflhgdlmiaaGreatPw6
import Derived.Test.YtaemgflhgdlmiaaGreatPw7
import Derived.Test.YtaemgflhgdlmiaaGreatPw8
import Derived.Test.YtaemgflhgdlmiaaGreatPw9
import Derived.Test.YtaemgflhgdlmiaaGreatPw10
import Derived.Test.YtaemgflhgdlmiaaGreatPw11
import Derived.Test.YtaemgflhgdlmiaaGreatPw12
import Derived.Test.YtaemgflhgdlmiaaGreatPw13
import Derived.Test.YtaemgflhgdlmiaaGreatPw14
import Derived.Test.YtaemgflhgdlmiaaGreatPw15
import Derived.Test.YtaemgflhgdlmiaaGreatPw16
import Derived.Test.YtaemgflhgdlmiaaGreatPw17
import Derived.Test.YtaemgflhgdlmiaaGreatPw18
import Derived.Test.YtaemgflhgdlmiaaGreatPw19
import Derived.Test.YtaemgflhgdlmiaaGreatPw20
import Derived.Test.YtaemgflhgdlmiaaGreatPw21
import Derived.Test.YtaemgflhgdlmiaaGreatPw22
import Derived.Test.YtaemgflhgdlmiaaGreatPw23
import Derived.Test.YtaemgflhgdlmiaaGreatPw24
import Derived.Test.YtaemgflhgdlmiaaGreatPw25
import Derived.Test.YtaemgflhgdlmiaaGreatPw26
import Derived.Test.YtaemgflhgdlmiaaGreatPw27
import Derived.Test.YtaemgflhgdlmiaaGreatPw28
import Derived.Test.YtaemgflhgdlmiaaGreatPw29
import Derived.Test.YtaemgflhgdlmiaaGreatPw30
import Derived.Test.YtaemgflhgdlmiaaGreatPw31
import Derived.Test.YtaemgflhgdlmiaaGreatPw39
import Derived.Test.YtaemgflhgdlmiaaGreatPw40
import Derived.Defers
import Derived.Recover
import Derived.Deep.RegionHeld2
import Derived.StillTailTactics
import Derived.WalkKit
import Derived.Laws.BitsAllLaws
import Derived.Laws.BytesArg
import Derived.Lib.SlBytesConst
import Derived.Maps.AppendAt
import Derived.Laws.AppendOwnNone
import Derived.WalkSpells
import Derived.WalkLawsBesides
import Derived.Deep.QuietTactic
import Derived.BigQuiet
import Derived.RegionTactic
import Derived.Deep.AppendLies
import Derived.Deep.RegionLaw
import Derived.Laws.ResultCell
import Derived.Laws.EntriesVeiled
import Derived.Lib.Hide
import Derived.Test.YtaemgflhgdlmiaaGreatRows
import Derived.Deep.RegionHeld3
import Derived.Lib.SliceRun
import Derived.BigRegion
import Derived.Laws.Externs
import Derived.Shelf.Spec.BitsCarry
import Derived.Deep.CutBlock
import Derived.Deep.CutRange
import Derived.Deep.DeepCutAuto
import Derived.Lib.BitFns
import Derived.Shelf.Small.Bits
import Derived.Shelf.Strconv.Itoa0
import Derived.Shelf.Bits.Mul64
import Derived.Lib.AppendZeros
import Derived.Laws.CopyOwn
import Derived.Lib.Overlaps
import Derived.Lib.AppendZerosOnto
import Derived.Laws.OwnMore
import Derived.Shelf.SlSortCmp.WholeK
set_option maxRecDepth 100000
set_option maxHeartbeats 8000000
namespace Go.Proofs.YtaemgflhgdlmiaaGreat
open Go.RowKit
theorem rof_any (A m n c : Nat) (p : Option Addr) (a : List Pr) (w : World) (hp : PrI w p a) (hn : a.length = n) (hN : n ≤ 100000) (hok : DdOk A m (cutN a m) (cutA a m)) (ht : ltot a < 18446744073709551616) :
    Calls Tryz.prog 12 #[.int .i64 (A : Nat), .int .i64 (m : Nat), .slice p n c] w fun e w' => ∃ v, e = .returned v ∧ AccB w w' v (ddB A m (cutN a m) (cutA a m)).length (ddB A m (cutN a m) (cutA a m)) := by
  obtain ⟨-, hf, hA, hm, -⟩ := ddOk_good hok
  have H := Lib.hid (rkept_any p n c m a w (by have := hok.ld.m2; omega) hp hn hN ht)
  have HW := Lib.hid (fun q N d W (h1 : PrI W q (cutN a m)) (h2 : (cutN a m).length = N) => rwrite21_any A m (cutA a m) N d q (cutN a m) W h1 h2 (by have := hok.ld.len; have := hok.ld.m3; omega) hok.ld.good hA hm hf)
  obtain ⟨B, hB⟩ : ∃ B, ddB A m (cutN a m) (cutA a m) = B := ⟨_, rfl⟩
  rw [hB] at HW ⊢
  obtain ⟨F, hF⟩ : ∃ F, cutA a m = F := ⟨_, rfl⟩
  rw [hF] at H HW hf
  have hmb : (m : Int) ≤ 2097152 := by omega
  clear hp hn hN hok ht hB hF
  go_enter Tryz.func12, Tryz.ntmps12
  go_wp2_with fail
  refine H.out.mono ?_
  rintro e w1 ⟨v, rfl, ⟨q, N, d, rfl, hN, hp, -⟩, f1⟩
  have HW1 := Lib.hid (HW.out q N d w1 hp hN)
  have F1 := Lib.hid f1
  clear hp f1 H HW hN
  go_wp2_with fail
  refine HW1.out.mono ?_
  rintro e w2 ⟨v, rfl, hv⟩
  have HV := Lib.hid (hv.back F1.out)
  clear hv HW1
  go_wp2_with fail
  go_ret
  exact ⟨v, rfl, HV.out⟩
end Go.Proofs.YtaemgflhgdlmiaaGreat
