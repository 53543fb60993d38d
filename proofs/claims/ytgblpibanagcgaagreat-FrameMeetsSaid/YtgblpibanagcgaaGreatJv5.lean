/- Proved here: what the texts Vun prove, one behind the other. -/
import Derived.Test.YtgblpibanagcgaaGreatJv3
import Derived.Test.YtgblpibanagcgaaGreatJp

namespace Go.Proofs.YtgblpibanagcgaaGreat
open Ieee.Own Pol

/-! ### fractions -/
/-! ### the words -/
def sm : Rat := mkRat 1 (2^200)
end Go.Proofs.YtgblpibanagcgaaGreat
