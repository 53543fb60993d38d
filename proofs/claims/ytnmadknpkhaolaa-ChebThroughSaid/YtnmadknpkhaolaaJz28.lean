/- Proved here: what the texts HthE prove, one behind the other. -/
import Derived.Test.YtnmadknpkhaolaaJz22

namespace Go.Proofs.Ytnmadknpkhaolaa
open Go.ChangeShapes Go.WideShapes Go.ChangeAt Go.RowKit Ieee.Own Pol

theorem cOkE : ([10, 11].all cOk) = true := by decide +kernel
end Go.Proofs.Ytnmadknpkhaolaa
