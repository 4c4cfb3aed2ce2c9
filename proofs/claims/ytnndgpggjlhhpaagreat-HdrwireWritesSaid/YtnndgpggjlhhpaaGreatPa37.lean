/- ZlPure -/
import Derived.Test.YtnndgpggjlhhpaaGreatPa1
import Derived.Test.YtnndgpggjlhhpaaGreatPa2
import Derived.Test.YtnndgpggjlhhpaaGreatPa15
import Derived.Test.YtnndgpggjlhhpaaGreatPa19
import Derived.Test.YtnndgpggjlhhpaaGreatPa20
import Derived.Test.YtnndgpggjlhhpaaGreatPa21
import Derived.Test.YtnndgpggjlhhpaaGreatPa22
import Derived.Test.YtnndgpggjlhhpaaGreatPa23
import Derived.Test.YtnndgpggjlhhpaaGreatPa24
import Derived.Test.YtnndgpggjlhhpaaGreatPa25
import Derived.Test.YtnndgpggjlhhpaaGreatPa26
import Derived.Test.YtnndgpggjlhhpaaGreatPa27
import Derived.Test.YtnndgpggjlhhpaaGreatPa28
import Derived.Test.YtnndgpggjlhhpaaGreatPa29
import Derived.Test.YtnndgpggjlhhpaaGreatPa30
import Derived.WalkKit
import Derived.StillTailTactics
import Derived.WalkSpells
import Derived.WalkLawsBesides
import Derived.Deep.QuietTactic
import Derived.BigQuiet
import Derived.RegionTactic
import Derived.Deep.AppendLies
import Derived.Deep.RegionLaw
import Derived.Laws.ResultCell
import Derived.Laws.EntriesVeiled
import Derived.Lib.Hide
import Derived.Test.YtnndgpggjlhhpaaGreatRows
import Derived.Laws.BytesArg
import Derived.Lib.SlBytesConst
import Derived.Maps.AppendAt
import Derived.Laws.AppendOwnNone
import Derived.Laws.MakeOwn
import Derived.BigRegion
import Derived.Laws.OwnMore
import Derived.IntWalk
import Derived.Lib.MakeNoZero
import Derived.Laws.CopyOwn
import Derived.Laws.Tables
import Derived.Defers
import Derived.Recover
import Derived.Deep.RegionHeld3
import Derived.DeepKeys4
import Derived.WideKeyPair
import Derived.MapKept
import Derived.ChangeMaps
import Derived.Laws.Cover3
/- What wrapped streams tell, as lists. -/
namespace Go.Proofs.YtnndgpggjlhhpaaGreat
open Go.RowKit

theorem wrap9_cons (S b : List Nat) : wrap9 S b = 120 :: 1 :: (S ++ sum4 b) := rfl
theorem wrap9_256 {S b : List Nat} (h : ∀ x ∈ S, x < 256) : ∀ x ∈ wrap9 S b, x < 256 := by
  intro x hx
  rw [wrap9_cons] at hx
  simp only [List.mem_cons, List.mem_append] at hx
  rcases hx with hx | hx | hx | hx
  · omega
  · omega
  · exact h x hx
  · exact sum4_256 b x hx
end Go.Proofs.YtnndgpggjlhhpaaGreat
