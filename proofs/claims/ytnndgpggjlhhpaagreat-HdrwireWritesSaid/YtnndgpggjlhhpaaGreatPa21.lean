/- ZlModel -/
import Derived.Test.YtnndgpggjlhhpaaGreatPa1
import Derived.Test.YtnndgpggjlhhpaaGreatPa2
import Derived.Test.YtnndgpggjlhhpaaGreatPa15
import Derived.Test.YtnndgpggjlhhpaaGreatPa19
import Derived.Test.YtnndgpggjlhhpaaGreatPa20
import Derived.WalkKit
import Derived.StillTailTactics
import Derived.WalkSpells
import Derived.WalkLawsBesides
import Derived.Deep.QuietTactic
import Derived.BigQuiet
import Derived.RegionTactic
import Derived.Deep.AppendLies
import Derived.Deep.RegionLaw
import Derived.Laws.ResultCell
import Derived.Laws.EntriesVeiled
import Derived.Lib.Hide
import Derived.Test.YtnndgpggjlhhpaaGreatRows
import Derived.Laws.BytesArg
import Derived.Lib.SlBytesConst
import Derived.Maps.AppendAt
import Derived.Laws.AppendOwnNone
import Derived.Laws.MakeOwn
import Derived.BigRegion
import Derived.Laws.OwnMore
import Derived.IntWalk
import Derived.Lib.MakeNoZero
import Derived.Laws.CopyOwn
/- Layer 9 as functions on numbers: a sum's four bytes, right heads, what a wrapped stream tells. -/
namespace Go.Proofs.YtnndgpggjlhhpaaGreat
open Go.RowKit

/-- a sum in four bytes, the highest first -/
def sum4 (l : List Nat) : List Nat := [adSum l / 16777216, adSum l / 65536 % 256, adSum l / 256 % 256, adSum l % 256]
theorem sum4_length (l : List Nat) : (sum4 l).length = 4 := rfl
theorem adSum_lt (l : List Nat) : adSum l < 4294967296 := adMore_lt 1 l
theorem sum4_256 (l : List Nat) : ∀ x ∈ sum4 l, x < 256 := by
  have := adSum_lt l
  intro x hx
  simp only [sum4, List.mem_cons, List.not_mem_nil, or_false] at hx
  omega
/-- a text, wrapped -/
def wrap9 (s b : List Nat) : List Nat := [120, 1] ++ (s ++ sum4 b)

end Go.Proofs.YtnndgpggjlhhpaaGreat
