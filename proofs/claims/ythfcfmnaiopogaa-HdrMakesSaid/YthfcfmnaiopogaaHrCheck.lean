/- The document's histograms: what is refused, and what is counted. -/
import Derived.Test.YthfcfmnaiopogaaHrRef
namespace Go.Proofs.Ythfcfmnaiopogaa
open Go.RowKit

section
variable (g : Nat) (p : Option Addr) (k c : Nat) (M : Hm) (w : World) (s : RefIs w g p k c M)
include s
end
end Go.Proofs.Ythfcfmnaiopogaa
