/- The law on what is recorded, corrected and taken together, of the landed histograms. -/
import Derived.Test.YthfcfmnaiopogaaGreatHrLawPlays
import Derived.Test.YthfcfmnaiopogaaGreatHrReal
import Derived.Test.YthfcfmnaiopogaaGreatHrAlive
namespace Go.Proofs.YthfcfmnaiopogaaGreat
theorem law_playsX (a d y : Nat) (gr : Bool) (p : Option Addr) (m c : Nat) (l : List OpT) (w : World) (hm : l.length = m) (h : OpsI w p l) :
    Calls Tryz.prog 3 #[.int .u64 (a : Nat), .int .u8 (d : Nat), .int .u64 (y : Nat), .bool gr, .slice p m c] w fun e w' => e = .returned (.bool true) ∧ Fr S0 w w' :=
  law_plays newsX alive_any a d y gr p m c l w hm h
end Go.Proofs.YthfcfmnaiopogaaGreat
