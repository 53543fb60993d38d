/- Proved here: what the texts Vun prove, one behind the other. -/
import Derived.Test.YtpdkciennccckaaJv3
import Derived.Test.YtpdkciennccckaaJp

namespace Go.Proofs.Ytpdkciennccckaa
open Ieee.Own Pol

/-! ### fractions -/
theorem sq0 (x : Rat) : 0 ≤ x * x := by
  rcases (Rat.le_total : 0 ≤ x ∨ x ≤ 0) with h | h
  · exact Rat.mul_nonneg h h
  · have := Rat.mul_nonneg (show 0 ≤ -x by grind) (show 0 ≤ -x by grind)
    grind
/-! ### the words -/
def sm : Rat := mkRat 1 (2^200)
end Go.Proofs.Ytpdkciennccckaa
