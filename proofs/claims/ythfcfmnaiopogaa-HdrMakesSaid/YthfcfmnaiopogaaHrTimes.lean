/- The document's steps that double. -/
import Derived.Test.YthfcfmnaiopogaaHrCorrect
import Derived.Test.YthfcfmnaiopogaaWdAll
namespace Go.Proofs.Ythfcfmnaiopogaa
open Go.RowKit

def times (n b : Nat) : Nat := min ((n + 1) * b - 1) 9223372036854775807

end Go.Proofs.Ythfcfmnaiopogaa
