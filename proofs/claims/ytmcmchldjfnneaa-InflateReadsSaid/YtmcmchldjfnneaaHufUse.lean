/- Rows of numbers of 32 bits. -/
import Derived.Test.YtmcmchldjfnneaaHufMake
namespace Go.Proofs.Ytmcmchldjfnneaa
open Go.RowKit

theorem el32 : ElemOk Try.prog 89 62 (.int .u32 0) 1 4 := ⟨Try.underlying89, info_u32, rfl, by decide, by decide⟩
/-- a row of numbers that is new to w -/
structure Row32 (w w' : World) (v : Value) (l : List Nat) : Prop where
  own : w'.ownsRow 0 62 1 v l.length (u32s l)
  fresh : Fresh w v
end Go.Proofs.Ytmcmchldjfnneaa
