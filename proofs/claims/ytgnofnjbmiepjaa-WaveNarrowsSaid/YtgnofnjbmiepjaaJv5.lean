/- Proved here: what the texts Vun prove, one behind the other. -/
import Derived.Test.YtgnofnjbmiepjaaJv3
import Derived.Test.YtgnofnjbmiepjaaJp

namespace Go.Proofs.Ytgnofnjbmiepjaa
open Ieee.Own Pol

/-! ### fractions -/
/-! ### the words -/
def sm : Rat := mkRat 1 (2^200)
theorem sm0 : 0 ≤ sm := by decide +kernel
end Go.Proofs.Ytgnofnjbmiepjaa
