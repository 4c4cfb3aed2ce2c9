/- KlTold -/
import Derived.Test.YtbpfmjekpjfceaaPk1
import Derived.Test.YtbpfmjekpjfceaaPk2
import Derived.Test.YtbpfmjekpjfceaaPk3
import Derived.Test.YtbpfmjekpjfceaaPk4
import Derived.Test.YtbpfmjekpjfceaaPk6
import Derived.Test.YtbpfmjekpjfceaaPk7
import Derived.Test.YtbpfmjekpjfceaaPk8
import Derived.Test.YtbpfmjekpjfceaaPk9
import Derived.Test.YtbpfmjekpjfceaaPk10
import Derived.Test.YtbpfmjekpjfceaaPk11
import Derived.Test.YtbpfmjekpjfceaaPk12
import Derived.Test.YtbpfmjekpjfceaaPk13
import Derived.Test.YtbpfmjekpjfceaaPk14
import Derived.Test.YtbpfmjekpjfceaaPk15
import Derived.Test.YtbpfmjekpjfceaaPk16
import Derived.Test.YtbpfmjekpjfceaaPk17
import Derived.Test.YtbpfmjekpjfceaaPk18
import Derived.Test.YtbpfmjekpjfceaaPk19
import Derived.Test.YtbpfmjekpjfceaaPk20
import Derived.Test.YtbpfmjekpjfceaaPk21
import Derived.Test.YtbpfmjekpjfceaaPk22
import Derived.Test.YtbpfmjekpjfceaaPk23
import Derived.Test.YtbpfmjekpjfceaaPk24
import Derived.Test.YtbpfmjekpjfceaaPk25
import Derived.Test.YtbpfmjekpjfceaaPk26
import Derived.Test.YtbpfmjekpjfceaaPk27
import Derived.Test.YtbpfmjekpjfceaaPk28
import Derived.Deep.LoopGhost
import Derived.BigQuiet
import Derived.Deep.CutRange
import Derived.Maps.AppendAt
import Derived.Laws.AppendOwnNone
import Derived.Laws.OwnMore
import Derived.Lib.AppendZerosOnto
import Derived.Lib.SliceRun
import Derived.Lib.Walk
import Derived.WalkKit
import Derived.Laws.BytesArg
import Derived.Lib.SlBytesConst
import Derived.WalkSpells
import Derived.WalkLawsBesides
import Derived.Deep.QuietTactic
import Derived.RegionTactic
import Derived.Deep.AppendLies
import Derived.Deep.RegionLaw
import Derived.Laws.ResultCell
import Derived.Laws.EntriesVeiled
import Derived.Lib.Hide
import Derived.Test.YtbpfmjekpjfceaaRows
import Derived.Laws.BitsAllLaws
import Derived.Deep.RegionHeld3
import Derived.BigRegion
import Derived.RangeFuncNested
import Derived.RangeFuncBound
import Derived.RangeFuncCalls
import Derived.RangeFuncLeaves
import Derived.Shelf.Abstract
import Derived.Shelf.RegionOpen
import Derived.OwnWalkIn
import Derived.TacticsInMore
import Derived.LoopNIn
import Derived.LoopIn
import Derived.StillTailTactics
import Derived.Laws.Externs
import Derived.Shelf.Spec.BitsCarry
import Derived.Deep.CutBlock
import Derived.Deep.DeepCutAuto
import Derived.Lib.BitFns
import Derived.Shelf.Small.Bits
import Derived.Shelf.Strconv.Itoa0
import Derived.Shelf.Bits.Mul64
import Derived.Shelf.SlSortCmp.WholeK
set_option maxRecDepth 100000
set_option maxHeartbeats 8000000
namespace Go.Proofs.Ytbpfmjekpjfceaa
open Go.RowKit
section
variable {w W : World} {g r gr r2 n c k : Nat} {q : Option Addr} {bs : List Nat} {s t : St}
theorem Bo.lens (b : Bo w W g r gr r2 q n c bs k s t) : (s.1.length ≤ 49 ∧ kept s.1 ≤ 20000 ∧ wtL s.1 ≤ 281474976710656) ∧ 8 ≤ k ∧ k ≤ 4096 := ⟨⟨b.gs.good.len, b.gs.good.kept, b.gs.good.fine.wt⟩, b.gs.good.lo, b.gs.good.hi⟩
theorem bo_total (b : Bo w W g r gr r2 q n c bs k s t) : Calls Try.prog 23 #[.pointer (some ⟨g, 0, none⟩)] W fun e w' => e = .returned (.int .u64 (wtL s.1 : Nat)) ∧ w' = W := by
  obtain ⟨C, D, h⟩ := b.code
  exact xtotal_any _ _ _ _ _ _ _ _ h
theorem bo_size (b : Bo w W g r gr r2 q n c bs k s t) : Calls Try.prog 22 #[.pointer (some ⟨g, 0, none⟩)] W fun e w' => e = .returned (.int .i64 (k : Nat)) ∧ w' = W := by
  obtain ⟨C, D, h⟩ := b.code
  exact xsize_any _ _ _ _ _ _ _ _ h
theorem bo_ledger (b : Bo w W g r gr r2 q n c bs k s t) : Calls Try.prog 24 #[.pointer (some ⟨g, 0, none⟩)] W fun e w' => e = .returned (.int .u64 (s.2.1 : Nat)) ∧ w' = W := by
  obtain ⟨C, D, h⟩ := b.code
  exact xledger_any _ _ _ _ _ _ _ _ h
theorem bo_kept (b : Bo w W g r gr r2 q n c bs k s t) : Calls Try.prog 35 #[.pointer (some ⟨g, 0, none⟩)] W fun e w' => e = .returned (.int .i64 (kept s.1 : Nat)) ∧ w' = W := by
  obtain ⟨C, D, h⟩ := b.code
  obtain ⟨⟨h1, h2, -⟩, -⟩ := b.lens
  exact xkept_any _ _ _ _ _ _ _ _ h (by omega) (by omega)
theorem bo_room (b : Bo w W g r gr r2 q n c bs k s t) (i : Nat) : Calls Try.prog 34 #[.pointer (some ⟨g, 0, none⟩), .int .i64 (i : Nat)] W fun e w' => e = .returned (.int .i64 (room k s.1.length i : Nat)) ∧ Fr S0 W w' := by
  obtain ⟨C, D, h⟩ := b.code
  obtain ⟨⟨h1, -, -⟩, h4, h5⟩ := b.lens
  exact xroom_any _ _ _ _ _ _ _ _ i h (by omega) (by omega) (by omega)
theorem kept_mem : ∀ (L : Lv) l, l ∈ L → l.length ≤ kept L
  | [], _, h => nomatch h
  | a :: r, l, h => by
    rcases List.mem_cons.1 h with rfl | h
    · rw [kept]; omega
    · have := kept_mem r l h
      rw [kept]; omega
theorem bo_levels (b : Bo w W g r gr r2 q n c bs k s t) : Calls Try.prog 25 #[.pointer (some ⟨g, 0, none⟩)] W fun e w' => ∃ v, e = .returned v ∧ LvOut W w' v s.1.length s.1 := by
  obtain ⟨C, D, h⟩ := b.code
  obtain ⟨⟨h1, h2, -⟩, -⟩ := b.lens
  exact xlevels_any _ _ _ _ _ _ _ _ h (fun l hl => by have := kept_mem s.1 l hl; omega) (by omega)
end
end Go.Proofs.Ytbpfmjekpjfceaa
