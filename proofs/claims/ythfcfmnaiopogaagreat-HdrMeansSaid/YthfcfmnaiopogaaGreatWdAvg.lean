/- Averages of two, and what lies between. -/
import Derived.Test.YthfcfmnaiopogaaGreatWdMean
namespace Go.Proofs.YthfcfmnaiopogaaGreat
open Go.RowKit

theorem MeanEnds.yes {w w' : World} {l : List Tm} {e : Ending} (h : MeanEnds w l e w') (hn : ¬ MeanNo l) : e = .returned (.tuple #[.int .i64 (((lsm l / wts l : Nat) : Int) - 9223372036854775808), .int .i64 0]) ∧ Fr S0 w w' := by
  unfold MeanEnds at h
  rw [if_neg hn] at h
  exact h
theorem MeanEnds.no {w w' : World} {l : List Tm} {e : Ending} (h : MeanEnds w l e w') (hn : MeanNo l) : e = .returned (.tuple #[.int .i64 0, .int .i64 100]) ∧ Fr S0 w w' := by
  unfold MeanEnds at h
  rw [if_pos hn] at h
  exact h

theorem part_le (D a o : Nat) (ha : a ≤ o) : D * a / o ≤ D := by
  refine Nat.div_le_of_le_mul ?_
  rw [Nat.mul_comm o]
  exact Nat.mul_le_mul_left D ha

end Go.Proofs.YthfcfmnaiopogaaGreat
