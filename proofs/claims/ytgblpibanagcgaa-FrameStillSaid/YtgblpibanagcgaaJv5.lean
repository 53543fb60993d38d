/- Proved here: what the texts Vun prove, one behind the other. -/
import Derived.Test.YtgblpibanagcgaaJv3
import Derived.Test.YtgblpibanagcgaaJp

namespace Go.Proofs.Ytgblpibanagcgaa
open Ieee.Own Pol

/-! ### fractions -/
/-! ### the words -/
def sm : Rat := mkRat 1 (2^200)
end Go.Proofs.Ytgblpibanagcgaa
