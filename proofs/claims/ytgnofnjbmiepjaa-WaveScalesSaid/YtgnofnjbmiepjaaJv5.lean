/- Proved here: what the texts Vun prove, one behind the other. -/
import Derived.Test.YtgnofnjbmiepjaaJv3
import Derived.Test.YtgnofnjbmiepjaaJp

namespace Go.Proofs.Ytgnofnjbmiepjaa
open Ieee.Own Pol

/-! ### fractions -/
theorem mag_sq (x : Rat) : mag x * mag x = x * x := by unfold mag; split <;> grind
/-! ### the words -/
def sm : Rat := mkRat 1 (2^200)
end Go.Proofs.Ytgnofnjbmiepjaa
