/- KlTold -/
import Derived.Test.YtbpfmjekpjfceaaPa1
import Derived.Test.YtbpfmjekpjfceaaPa2
import Derived.Test.YtbpfmjekpjfceaaPa3
import Derived.Test.YtbpfmjekpjfceaaPa4
import Derived.Test.YtbpfmjekpjfceaaPa6
import Derived.Test.YtbpfmjekpjfceaaPa7
import Derived.Test.YtbpfmjekpjfceaaPa8
import Derived.Test.YtbpfmjekpjfceaaPa9
import Derived.Test.YtbpfmjekpjfceaaPa10
import Derived.Test.YtbpfmjekpjfceaaPa11
import Derived.Test.YtbpfmjekpjfceaaPa12
import Derived.Test.YtbpfmjekpjfceaaPa13
import Derived.Test.YtbpfmjekpjfceaaPa14
import Derived.Test.YtbpfmjekpjfceaaPa15
import Derived.Test.YtbpfmjekpjfceaaPa16
import Derived.Test.YtbpfmjekpjfceaaPa17
import Derived.Test.YtbpfmjekpjfceaaPa18
import Derived.Test.YtbpfmjekpjfceaaPa19
import Derived.Test.YtbpfmjekpjfceaaPa20
import Derived.Test.YtbpfmjekpjfceaaPa21
import Derived.Test.YtbpfmjekpjfceaaPa22
import Derived.Test.YtbpfmjekpjfceaaPa23
import Derived.Test.YtbpfmjekpjfceaaPa24
import Derived.Test.YtbpfmjekpjfceaaPa25
import Derived.Test.YtbpfmjekpjfceaaPa26
import Derived.Test.YtbpfmjekpjfceaaPa27
import Derived.Test.YtbpfmjekpjfceaaPa28
import Derived.Deep.LoopGhost
import Derived.BigQuiet
import Derived.Deep.CutRange
import Derived.Maps.AppendAt
import Derived.Laws.AppendOwnNone
import Derived.Laws.OwnMore
import Derived.Lib.AppendZerosOnto
import Derived.Lib.SliceRun
import Derived.Lib.Walk
import Derived.WalkKit
import Derived.Laws.BytesArg
import Derived.Lib.SlBytesConst
import Derived.WalkSpells
import Derived.WalkLawsBesides
import Derived.Deep.QuietTactic
import Derived.RegionTactic
import Derived.Deep.AppendLies
import Derived.Deep.RegionLaw
import Derived.Laws.ResultCell
import Derived.Laws.EntriesVeiled
import Derived.Lib.Hide
import Derived.Test.YtbpfmjekpjfceaaRows
import Derived.Laws.BitsAllLaws
import Derived.Deep.RegionHeld3
import Derived.BigRegion
import Derived.RangeFuncNested
import Derived.RangeFuncBound
import Derived.RangeFuncCalls
import Derived.RangeFuncLeaves
import Derived.Shelf.Abstract
import Derived.Shelf.RegionOpen
import Derived.OwnWalkIn
import Derived.TacticsInMore
import Derived.LoopNIn
import Derived.LoopIn
import Derived.StillTailTactics
import Derived.Laws.Externs
import Derived.Shelf.Spec.BitsCarry
import Derived.Deep.CutBlock
import Derived.Deep.DeepCutAuto
import Derived.Lib.BitFns
import Derived.Shelf.Small.Bits
import Derived.Shelf.Strconv.Itoa0
import Derived.Shelf.Bits.Mul64
import Derived.Shelf.SlSortCmp.WholeK
set_option maxRecDepth 100000
set_option maxHeartbeats 8000000
namespace Go.Proofs.Ytbpfmjekpjfceaa
open Go.RowKit
section
variable {w W : World} {g r gr r2 n c k : Nat} {q : Option Addr} {bs : List Nat} {s t : St}
theorem Bo.lens (b : Bo w W g r gr r2 q n c bs k s t) : (s.1.length ≤ 49 ∧ kept s.1 ≤ 20000 ∧ wtL s.1 ≤ 281474976710656) ∧ 8 ≤ k ∧ k ≤ 4096 := ⟨⟨b.gs.good.len, b.gs.good.kept, b.gs.good.fine.wt⟩, b.gs.good.lo, b.gs.good.hi⟩
theorem kept_mem : ∀ (L : Lv) l, l ∈ L → l.length ≤ kept L
  | [], _, h => nomatch h
  | a :: r, l, h => by
    rcases List.mem_cons.1 h with rfl | h
    · rw [kept]; omega
    · have := kept_mem r l h
      rw [kept]; omega
theorem bo_between (b : Bo w W g r gr r2 q n c bs k s t) (v : Int) : Calls Try.prog 31 #[.pointer (some ⟨g, 0, none⟩), .int .i64 v] W fun e w' => e = .returned (.tuple #[.int .u64 (cntL (loB v) s.1 : Nat), .int .u64 (cntL (upB v) s.1 : Nat)]) ∧ Fr S0 W w' := by
  obtain ⟨C, D, h⟩ := b.code
  obtain ⟨⟨h1, h2, h3⟩, -⟩ := b.lens
  exact xbetween_any g k (wtL s.1) s.2.1 C D s.1 W v h h3 (by omega) (by omega)
def atE (L : Lv) (num den : Nat) : Nat := rkE num den (wtL L)
def atY (L : Lv) (num den : Nat) : Int := if rkE num den (wtL L) = 0 then atV L (rkR num den (wtL L)) else 0
def atL (L : Lv) (E num den : Nat) : Nat := if rkE num den (wtL L) = 0 then E else 0
theorem bo_at (b : Bo w W g r gr r2 q n c bs k s t) (num den : Nat) (hd : den < 18446744073709551616) : Calls Try.prog 27 #[.pointer (some ⟨g, 0, none⟩), .int .u64 (num : Nat), .int .u64 (den : Nat)] W fun e w' => e = .returned (.tuple #[.int .i64 (atY s.1 num den), .int .u64 (atL s.1 s.2.1 num den : Nat), .int .i64 (atE s.1 num den : Nat)]) ∧ Fr S0 W w' := by
  obtain ⟨C, D, h⟩ := b.code
  obtain ⟨⟨h1, h2, h3⟩, -⟩ := b.lens
  by_cases he : rkE num den (wtL s.1) = 0
  · refine (xat_yes g k (wtL s.1) s.2.1 num den C D s.1 W h rfl h3 hd he (by omega) (by omega)).mono fun e w' hq => ⟨?_, hq.2⟩
    rw [atY, atL, atE, if_pos he, if_pos he, he]
    exact hq.1
  · refine (xat_no g k (wtL s.1) s.2.1 num den C D s.1 W h h3 hd he).mono fun e w' hq => ⟨?_, ?_⟩
    · rw [atY, atL, atE, if_neg he, if_neg he]
      exact hq.1
    · first | exact hq.2 | (rw [hq.2]; exact Fr.refl _ _)
theorem br_total (b : Bo w W g r gr r2 q n c bs k s t) : Calls Try.prog 29 #[.pointer (some ⟨gr, 0, none⟩)] W fun e w' => e = .returned (.int .u64 (wtL t.1 : Nat)) ∧ w' = W := by
  obtain ⟨C, D, h⟩ := b.ref
  have h1 := b.gt.good.len
  have h2 := b.gt.good.fine.wt
  exact rstotal_any _ _ _ _ _ _ _ h (by omega) (by omega)
theorem br_between (b : Bo w W g r gr r2 q n c bs k s t) (v : Int) : Calls Try.prog 32 #[.pointer (some ⟨gr, 0, none⟩), .int .i64 v] W fun e w' => e = .returned (.tuple #[.int .u64 (cntL (loB v) t.1 : Nat), .int .u64 (cntL (upB v) t.1 : Nat)]) ∧ w' = W := by
  obtain ⟨C, D, h⟩ := b.ref
  have h1 := b.gt.good.len
  have h2 := b.gt.good.fine.wt
  exact rbetween_any gr k t.2.1 C D t.1 v W h (by omega) h2
theorem br_at (b : Bo w W g r gr r2 q n c bs k s t) (x : Nat) (hx : x ≤ 281474976710656) : Calls Try.prog 30 #[.pointer (some ⟨gr, 0, none⟩), .int .u64 (x : Nat)] W fun e w' => e = .returned (.int .i64 (atV t.1 x)) ∧ w' = W := by
  obtain ⟨C, D, h⟩ := b.ref
  have h1 := b.gt.good.len
  have h2 := b.gt.good.fine.wt
  exact rat_any gr k t.2.1 C D t.1 W x h (by omega) h2 hx
end
end Go.Proofs.Ytbpfmjekpjfceaa
